/- Delivery: an act, an order arrives, or none can be sent. -/
import Derived.Test.YtkamkkjijjkfdaaGb
import Derived.StillTailTactics
import Derived.BigQuiet
import Derived.Deep.CutRange
namespace Go.Proofs.Ytkamkkjijjkfdaa
open Go.RowKit

set_option maxRecDepth 100000 in
set_option maxHeartbeats 8000000 in
theorem step_wait {base n : Nat} {pa ta va aa da : Option Addr} {pc tc vc ac dc : Nat} {nx : Int} {P : List Od} {t : Int} {L : List Bool} {f : Int} {V : List Int} {dn : Int} {A D : List Od} {xd xw xv xl xf : Int} {w : World} (h : WdA base n pa ta va aa da pc tc vc ac dc nx P t L f V dn A D w) (sm : Bool) (hc0 : xd.tmod 3 = 0 ∨ (¬ xd.tmod 3 = 0 ∧ A = [])) {b c d : Int} (hfb1 : sm = true → b = 1) (hfb2 : sm = false → (wrap64 xf).tmod 4 = b) (hxv : 0 ≤ xv ∧ xv ≤ 255) (hxl : 0 ≤ xl ∧ xl ≤ 255) (hxc : xv.tmod 4 = c) (hxd : xl.tmod 16 = d) (hsn : SnP nx P) (hob : orB 0 b c d = true) (hn1 : ¬ 1000000 < nx) (hpl : P.length ≤ 100000) (hfp : 0 < P.length) (hfi : (P.getD 0 zO).a ≤ nx - 16) :
    Calls Try.prog 44 #[.pointer (some ⟨n, 0, none⟩), .agg #[.int .u8 xd, .int .u8 xw, .int .u8 xv, .int .u8 xl, .int .u8 xf], .bool sm] w fun e w' => e = .returned (.bool true) ∧ WdP base n nx P t L f V dn A D w' ∧ Below base w w' := by
  have H1 := Lib.hid (h.step (al w (.cells #[.int .u8 xd, .int .u8 xw, .int .u8 xv, .int .u8 xl, .int .u8 xf] 80)))
  have H2 := Lib.hid (Cs.new w w.heap.size #[.int .u8 xd, .int .u8 xw, .int .u8 xv, .int .u8 xl, .int .u8 xf] 80 rfl)
  have HLE := Lib.hid (h.le)
  have H3 := Lib.hid (keepB (Below.refl base w) (al w (.cells #[.int .u8 xd, .int .u8 xw, .int .u8 xv, .int .u8 xl, .int .u8 xf] 80)) HLE.out)
  replace HLE := Lib.hid (H1.out.le)
  have HNW := Lib.hid h.cs.2.2
  have HBN := Lib.hid h.bn
  have HC0 := Lib.hid hc0
  have HFB1 := Lib.hid hfb1
  have HFB2 := Lib.hid hfb2
  have HXV := Lib.hid (show IntKind.i64.wrap xv = xv from IntWalk.i64_in _ (by omega))
  have HXL := Lib.hid (show IntKind.i64.wrap xl = xl from IntWalk.i64_in _ (by omega))
  have HXC := Lib.hid hxc
  have HXD := Lib.hid hxd
  have HSN := Lib.hid hsn
  have HOB := Lib.hid hob
  have HN1 := Lib.hid hn1
  have HFI := Lib.hid hfi
  have HPL := Lib.hid hpl
  have HW1 := Lib.hid (show wrap64 (nx + 1) = nx + 1 from IntWalk.wrap64_in _ (by have := hsn.1; omega))
  have HW16 := Lib.hid (show wrap64 (nx - 16) = nx - 16 from IntWalk.wrap64_in _ (by have := hsn.1; omega))
  have HFP := Lib.hid hfp
  clear hc0 hfb1 hfb2 hxv hxl hxc hxd hsn hob hn1 hfi hpl hfp
  clear h
  go_enter Try.func44, Try.ntmps44
  go_upto_region 1 with fail
  obtain ⟨wq, hwq⟩ : ∃ z, w.alloc (.cells #[.int .u8 xd, .int .u8 xw, .int .u8 xv, .int .u8 xl, .int .u8 xf] 80) = z := ⟨_, rfl⟩
  rw [hwq] at H1 H2 H3 HLE ⊢
  clear hwq
  have xw7 := H1.out.cs.c 7 rfl
  have xwz := H1.out.cs.2.2
  have xo0 := H2.out.c 0 rfl
  have xo4 := H2.out.c 4 rfl
  have xoz := H2.out.2.2
  go_cut [21] from 10 to 20 (fun p1 wc => p1 = .bool true ∧ wc = wq)
  case first =>
    rcases HC0.out with h0 | ⟨h0, h1⟩
    · go_wp2
      go_meet
      exact ⟨rfl, rfl⟩
    · have h2 : A.length = 0 := by rw [h1]; rfl
      go_wp2
      go_meet
      exact ⟨by simp, rfl⟩
  case rest =>
    obtain ⟨rfl, hwc⟩ := hcut
    replace hwc := hwc.symm
    subst hwc
    clear xw7 xwz xo0 xo4 xoz
    have xo4 := H2.out.c 4 rfl
    have xoz := H2.out.2.2
    go_upto_region 3 with fail
    go_upto_if 26 with fail
    go_cut [7] from 22 to 26 (fun p1 wc => p1 = .int .i64 b ∧ wc = wq)
    case first =>
      cases sm
      · have hfx := HFB2.out rfl
        go_wp2
        go_meet
        exact ⟨rfl, rfl⟩
      · have hfx := HFB1.out rfl
        subst hfx
        go_wp2
        go_meet
        exact ⟨rfl, rfl⟩
    case rest =>
      obtain ⟨rfl, hwc⟩ := hcut
      replace hwc := hwc.symm
      subst hwc
      clear xo4 xoz
      go_upto_region 5 with fail
      go_cut [9, 8] from 27 to 43 (fun p2 p1 wc => p2 = .int .i64 30 ∧ (∃ k : Nat, p1 = .pointer (some ⟨k, 0, none⟩)) ∧ Below wq.heap.size wq wc)
      case first =>
        obtain ⟨lit, hlit⟩ : ∃ lit : (Nat → Value) → Act, lit = fun vs => { tmps := List.toArray (Value.pointer (some { block := n, off := 0 }) :: Value.agg #[Value.int IntKind.u8 xd, Value.int IntKind.u8 xw, Value.int IntKind.u8 xv, Value.int IntKind.u8 xl, Value.int IntKind.u8 xf] :: Value.bool sm :: undef :: Value.pointer (some { block := w.heap.size, off := 0 }) :: undef :: Value.bool false :: Value.int IntKind.i64 b :: vs 17 :: vs 19 :: u10 :: u11 :: u12 :: u13 :: u14 :: u15 :: u16 :: u17 :: u18 :: u19 :: u20 :: Value.bool true :: u22 :: u23 :: u24 :: u25 :: u26 :: vs 14 :: vs 0 :: vs 1 :: vs 2 :: vs 3 :: vs 4 :: vs 5 :: vs 6 :: vs 7 :: vs 8 :: vs 9 :: vs 10 :: vs 11 :: vs 12 :: vs 13 :: vs 15 :: vs 16 :: undef :: undef :: undef :: undef :: undef :: undef :: undef :: undef :: undef :: undef :: undef :: undef :: undef :: undef :: undef :: undef :: undef :: undef :: undef :: undef :: undef :: undef :: undef :: undef :: undef :: undef :: undef :: undef :: undef :: undef :: undef :: undef :: undef :: undef :: undef :: undef :: undef :: undef :: undef :: undef :: undef :: undef :: undef :: undef :: undef :: undef :: undef :: undef :: undef :: undef :: undef :: undef :: undef :: undef :: undef :: undef :: undef :: undef :: undef :: undef :: undef :: undef :: undef :: undef :: undef :: undef :: undef :: undef :: undef :: undef :: undef :: undef :: undef :: undef :: undef :: undef :: undef :: undef :: undef :: undef :: undef :: undef :: undef :: undef :: undef :: undef :: undef :: []), defers := [] } := ⟨_, rfl⟩
        have HLIT := Lib.hid hlit
        clear hlit
        obtain ⟨val, hval⟩ : ∃ val : List Value, val = [.pointer (some ⟨n, 0, none⟩), .pointer (some ⟨n, 0, none⟩), .pointer (some ⟨n, 0, none⟩), .agg #[.int .i64 nx, .slice pa P.length pc], .int .i64 b, .pointer (some ⟨w.heap.size, 2, none⟩), .int .u8 xv, .int .i64 xv, .int .i64 c, .pointer (some ⟨w.heap.size, 3, none⟩), .int .u8 xl, .int .i64 xl, .int .i64 d, undef, undef, undef, .int .i64 30, undef, undef, .int .i64 30] := ⟨_, rfl⟩
        have E0 := Lib.hid (show val.getD 0 undef = .pointer (some ⟨n, 0, none⟩) by rw [hval]; rfl)
        have E1 := Lib.hid (show val.getD 1 undef = .pointer (some ⟨n, 0, none⟩) by rw [hval]; rfl)
        have E2 := Lib.hid (show val.getD 2 undef = .pointer (some ⟨n, 0, none⟩) by rw [hval]; rfl)
        have E3 := Lib.hid (show val.getD 3 undef = .agg #[.int .i64 nx, .slice pa P.length pc] by rw [hval]; rfl)
        have E4 := Lib.hid (show val.getD 4 undef = .int .i64 b by rw [hval]; rfl)
        have E5 := Lib.hid (show val.getD 5 undef = .pointer (some ⟨w.heap.size, 2, none⟩) by rw [hval]; rfl)
        have E6 := Lib.hid (show val.getD 6 undef = .int .u8 xv by rw [hval]; rfl)
        have E7 := Lib.hid (show val.getD 7 undef = .int .i64 xv by rw [hval]; rfl)
        have E8 := Lib.hid (show val.getD 8 undef = .int .i64 c by rw [hval]; rfl)
        have E9 := Lib.hid (show val.getD 9 undef = .pointer (some ⟨w.heap.size, 3, none⟩) by rw [hval]; rfl)
        have E10 := Lib.hid (show val.getD 10 undef = .int .u8 xl by rw [hval]; rfl)
        have E11 := Lib.hid (show val.getD 11 undef = .int .i64 xl by rw [hval]; rfl)
        have E12 := Lib.hid (show val.getD 12 undef = .int .i64 d by rw [hval]; rfl)
        have E16 := Lib.hid (show val.getD 16 undef = .int .i64 30 by rw [hval]; rfl)
        have E19 := Lib.hid (show val.getD 19 undef = .int .i64 30 by rw [hval]; rfl)
        clear hval
        obtain ⟨G, hG0⟩ : ∃ G : Bool → Nat → Value → World → Prop, G = (fun bq iq vq ww => (iq = 13 → ∃ (uc : Nat) (ua : Option Addr), vq = (.tuple #[.agg #[.int .i64 0, .slice ua 0 uc], .int .i64 30])) ∧ (iq = 14 → ∃ (uc : Nat) (ua : Option Addr), vq = (.tuple #[.agg #[.int .i64 0, .slice ua 0 uc], .int .i64 30])) ∧ (iq = 15 → ∃ (uc : Nat) (ua : Option Addr), vq = (.agg #[.int .i64 0, .slice ua 0 uc])) ∧ (iq = 17 → ∃ k9 : Nat, vq = .pointer (some ⟨k9, 0, none⟩) ∧ wq.heap.size ≤ k9 ∧ (bq = false → BoxN ww k9 Z2 24)) ∧ (iq ≠ 13 → iq ≠ 14 → iq ≠ 15 → iq ≠ 17 → iq ≠ 18 → vq = val.getD iq undef)) := ⟨_, rfl⟩
        have HG := Lib.hid hG0
        clear hG0
        refine region_inv (NS lit 18 (fun p q => (p == 18 && q == 3) || (p == 18 && q == 6) || (p == 18 && q == 10) || (p == 18 && q == 13) || (p == 18 && q == 15) || (p == 18 && q == 17)) G fun bq wv => (bq = false → Below wq.heap.size wq wv) ∧ (bq = true → Below wq.heap.size wq wv)) (by kernel_rfl) (by decide +kernel) ?_ ?_ ?_
        · exact NS.start (fun i => ([undef, undef, undef, undef, undef, undef, undef, undef, undef, undef, undef, undef, undef, undef, undef, undef, undef, undef, undef, undef] : List Value).getD i undef) (by rw [HLIT.out]; rfl) ⟨fun _ => below_drew _ _, fun h => (by cases h)⟩
        · refine ⟨?_, ?_, ?_, ?_, ?_, ?_, ?_, ?_, ?_, ?_, ?_, ?_, ?_, ?_, ?_, ?_, ?_, ?_, ?_, ?_, trivial⟩
          · intro bf ac wv hfb haf hJ K' hK
            obtain ⟨vs, rfl, ja, hB, j4⟩ := hJ
            replace hK := Lib.hid hK
            rw [HG.out] at j4
            replace j4 := Lib.hid (And.intro ja j4)
            replace hB := Lib.hid hB
            clear ja haf
            rw [HLIT.out]
            go_simp
            exact hK.out _ _ (NS.next (vs := vs) 0 (by omega) (fun q h => absurd h (by simp)) (x := .pointer (some ⟨n, 0, none⟩)) (by rw [HLIT.out]; rfl) (by rw [HG.out]; exact j4.out) hB.out (by rw [HG.out]; exact fun _ _ h => h) (by rw [HG.out]; exact ⟨fun h => absurd h (by decide), fun h => absurd h (by decide), fun h => absurd h (by decide), fun h => absurd h (by decide), fun _ _ _ _ _ => E0.out.symm⟩))
          · intro bf ac wv hfb haf hJ K' hK
            obtain ⟨vs, rfl, ja, hB, j4⟩ := hJ
            replace hK := Lib.hid hK
            simp [Region.binds] at haf
            rw [HG.out] at j4
            have e0 := ((j4 0 (by simp [haf])).2.2.2.2 (by decide) (by decide) (by decide) (by decide) (by decide)).trans E0.out
            replace j4 := Lib.hid (And.intro ja j4)
            replace hB := Lib.hid hB
            clear ja haf
            rw [HLIT.out]
            go_simp
            exact hK.out _ _ (NS.next (vs := vs) 1 (by omega) (fun q h => absurd h (by simp)) (x := .pointer (some ⟨n, 0, none⟩)) (by rw [HLIT.out]; simp only [upv, e0, Nat.reduceBEq, cond_true, cond_false]) (by rw [HG.out]; exact j4.out) hB.out (by rw [HG.out]; exact fun _ _ h => h) (by rw [HG.out]; exact ⟨fun h => absurd h (by decide), fun h => absurd h (by decide), fun h => absurd h (by decide), fun h => absurd h (by decide), fun _ _ _ _ _ => E1.out.symm⟩))
          · intro bf ac wv hfb haf hJ K' hK
            obtain ⟨vs, rfl, ja, hB, j4⟩ := hJ
            replace hK := Lib.hid hK
            simp [Region.binds] at haf
            rw [HG.out] at j4
            have e1 := ((j4 1 (by simp [haf])).2.2.2.2 (by decide) (by decide) (by decide) (by decide) (by decide)).trans E1.out
            replace j4 := Lib.hid (And.intro ja j4)
            replace hB := Lib.hid hB
            clear ja haf
            rw [HLIT.out]
            go_simp
            exact hK.out _ _ (NS.next (vs := vs) 2 (by omega) (fun q h => absurd h (by simp)) (x := .pointer (some ⟨n, 0, none⟩)) (by rw [HLIT.out]; simp only [upv, e1, Nat.reduceBEq, cond_true, cond_false]) (by rw [HG.out]; exact j4.out) hB.out (by rw [HG.out]; exact fun _ _ h => h) (by rw [HG.out]; exact ⟨fun h => absurd h (by decide), fun h => absurd h (by decide), fun h => absurd h (by decide), fun h => absurd h (by decide), fun _ _ _ _ _ => E2.out.symm⟩))
          · intro bf ac wv hfb haf hJ K' hK
            obtain ⟨vs, rfl, ja, hB, j4⟩ := hJ
            replace hK := Lib.hid hK
            simp [Region.binds] at haf
            rw [HG.out] at j4
            have e2 := ((j4 2 (by simp [haf])).2.2.2.2 (by decide) (by decide) (by decide) (by decide) (by decide)).trans E2.out
            have hd : bf 18 = false := by
              cases h : bf 18
              · rfl
              · exact absurd ((ja 18 3 rfl h).symm.trans hfb) (by simp)
            have hM := Lib.hid (hB.1 hd)
            replace j4 := Lib.hid (And.intro ja j4)
            replace hB := Lib.hid hB
            clear ja haf
            have xx0 := (H1.out.step hM.out).cs.c 0 rfl
            have xx1 := (H1.out.step hM.out).cs.c 1 rfl
            have xxz := (H1.out.step hM.out).cs.2.2
            rw [HLIT.out]
            go_simp
            exact hK.out _ _ (NS.next (vs := vs) 3 (by omega) (fun q h => absurd h (by simp)) (x := .agg #[.int .i64 nx, .slice pa P.length pc]) (by rw [HLIT.out]; simp only [upv, e2, Nat.reduceBEq, cond_true, cond_false]) (by rw [HG.out]; exact j4.out) hB.out (by rw [HG.out]; exact fun _ _ h => h) (by rw [HG.out]; exact ⟨fun h => absurd h (by decide), fun h => absurd h (by decide), fun h => absurd h (by decide), fun h => absurd h (by decide), fun _ _ _ _ _ => E3.out.symm⟩))
          · intro bf ac wv hfb haf hJ K' hK
            obtain ⟨vs, rfl, ja, hB, j4⟩ := hJ
            replace hK := Lib.hid hK
            rw [HG.out] at j4
            replace j4 := Lib.hid (And.intro ja j4)
            replace hB := Lib.hid hB
            clear ja haf
            rw [HLIT.out]
            go_simp
            exact hK.out _ _ (NS.next (vs := vs) 4 (by omega) (fun q h => absurd h (by simp)) (x := .int .i64 b) (by rw [HLIT.out]; rfl) (by rw [HG.out]; exact j4.out) hB.out (by rw [HG.out]; exact fun _ _ h => h) (by rw [HG.out]; exact ⟨fun h => absurd h (by decide), fun h => absurd h (by decide), fun h => absurd h (by decide), fun h => absurd h (by decide), fun _ _ _ _ _ => E4.out.symm⟩))
          · intro bf ac wv hfb haf hJ K' hK
            obtain ⟨vs, rfl, ja, hB, j4⟩ := hJ
            replace hK := Lib.hid hK
            rw [HG.out] at j4
            replace j4 := Lib.hid (And.intro ja j4)
            replace hB := Lib.hid hB
            clear ja haf
            rw [HLIT.out]
            go_simp
            exact hK.out _ _ (NS.next (vs := vs) 5 (by omega) (fun q h => absurd h (by simp)) (x := .pointer (some ⟨w.heap.size, 2, none⟩)) (by rw [HLIT.out]; rfl) (by rw [HG.out]; exact j4.out) hB.out (by rw [HG.out]; exact fun _ _ h => h) (by rw [HG.out]; exact ⟨fun h => absurd h (by decide), fun h => absurd h (by decide), fun h => absurd h (by decide), fun h => absurd h (by decide), fun _ _ _ _ _ => E5.out.symm⟩))
          · intro bf ac wv hfb haf hJ K' hK
            obtain ⟨vs, rfl, ja, hB, j4⟩ := hJ
            replace hK := Lib.hid hK
            simp [Region.binds] at haf
            rw [HG.out] at j4
            have e5 := ((j4 5 (by simp [haf])).2.2.2.2 (by decide) (by decide) (by decide) (by decide) (by decide)).trans E5.out
            have hd : bf 18 = false := by
              cases h : bf 18
              · rfl
              · exact absurd ((ja 18 6 rfl h).symm.trans hfb) (by simp)
            have hM := Lib.hid (hB.1 hd)
            replace j4 := Lib.hid (And.intro ja j4)
            replace hB := Lib.hid hB
            clear ja haf
            have xp2 := (H2.out.step hM.out).c 2 rfl
            have xpz := (H2.out.step hM.out).2.2
            rw [HLIT.out]
            go_simp
            exact hK.out _ _ (NS.next (vs := vs) 6 (by omega) (fun q h => absurd h (by simp)) (x := .int .u8 xv) (by rw [HLIT.out]; simp only [upv, e5, Nat.reduceBEq, cond_true, cond_false]) (by rw [HG.out]; exact j4.out) hB.out (by rw [HG.out]; exact fun _ _ h => h) (by rw [HG.out]; exact ⟨fun h => absurd h (by decide), fun h => absurd h (by decide), fun h => absurd h (by decide), fun h => absurd h (by decide), fun _ _ _ _ _ => E6.out.symm⟩))
          · intro bf ac wv hfb haf hJ K' hK
            obtain ⟨vs, rfl, ja, hB, j4⟩ := hJ
            replace hK := Lib.hid hK
            simp [Region.binds] at haf
            rw [HG.out] at j4
            have e6 := ((j4 6 (by simp [haf])).2.2.2.2 (by decide) (by decide) (by decide) (by decide) (by decide)).trans E6.out
            replace j4 := Lib.hid (And.intro ja j4)
            replace hB := Lib.hid hB
            clear ja haf
            rw [HLIT.out]
            go_simp
            exact hK.out _ _ (NS.next (vs := vs) 7 (by omega) (fun q h => absurd h (by simp)) (x := .int .i64 xv) (by rw [HLIT.out]; simp only [upv, e6, HXV.out, Nat.reduceBEq, cond_true, cond_false]) (by rw [HG.out]; exact j4.out) hB.out (by rw [HG.out]; exact fun _ _ h => h) (by rw [HG.out]; exact ⟨fun h => absurd h (by decide), fun h => absurd h (by decide), fun h => absurd h (by decide), fun h => absurd h (by decide), fun _ _ _ _ _ => E7.out.symm⟩))
          · intro bf ac wv hfb haf hJ K' hK
            obtain ⟨vs, rfl, ja, hB, j4⟩ := hJ
            replace hK := Lib.hid hK
            simp [Region.binds] at haf
            rw [HG.out] at j4
            have e7 := ((j4 7 (by simp [haf])).2.2.2.2 (by decide) (by decide) (by decide) (by decide) (by decide)).trans E7.out
            replace j4 := Lib.hid (And.intro ja j4)
            replace hB := Lib.hid hB
            clear ja haf
            rw [HLIT.out]
            go_simp
            exact hK.out _ _ (NS.next (vs := vs) 8 (by omega) (fun q h => absurd h (by simp)) (x := .int .i64 c) (by rw [HLIT.out]; simp only [upv, e7, HXC.out, Nat.reduceBEq, cond_true, cond_false]) (by rw [HG.out]; exact j4.out) hB.out (by rw [HG.out]; exact fun _ _ h => h) (by rw [HG.out]; exact ⟨fun h => absurd h (by decide), fun h => absurd h (by decide), fun h => absurd h (by decide), fun h => absurd h (by decide), fun _ _ _ _ _ => E8.out.symm⟩))
          · intro bf ac wv hfb haf hJ K' hK
            obtain ⟨vs, rfl, ja, hB, j4⟩ := hJ
            replace hK := Lib.hid hK
            rw [HG.out] at j4
            replace j4 := Lib.hid (And.intro ja j4)
            replace hB := Lib.hid hB
            clear ja haf
            rw [HLIT.out]
            go_simp
            exact hK.out _ _ (NS.next (vs := vs) 9 (by omega) (fun q h => absurd h (by simp)) (x := .pointer (some ⟨w.heap.size, 3, none⟩)) (by rw [HLIT.out]; rfl) (by rw [HG.out]; exact j4.out) hB.out (by rw [HG.out]; exact fun _ _ h => h) (by rw [HG.out]; exact ⟨fun h => absurd h (by decide), fun h => absurd h (by decide), fun h => absurd h (by decide), fun h => absurd h (by decide), fun _ _ _ _ _ => E9.out.symm⟩))
          · intro bf ac wv hfb haf hJ K' hK
            obtain ⟨vs, rfl, ja, hB, j4⟩ := hJ
            replace hK := Lib.hid hK
            simp [Region.binds] at haf
            rw [HG.out] at j4
            have e9 := ((j4 9 (by simp [haf])).2.2.2.2 (by decide) (by decide) (by decide) (by decide) (by decide)).trans E9.out
            have hd : bf 18 = false := by
              cases h : bf 18
              · rfl
              · exact absurd ((ja 18 10 rfl h).symm.trans hfb) (by simp)
            have hM := Lib.hid (hB.1 hd)
            replace j4 := Lib.hid (And.intro ja j4)
            replace hB := Lib.hid hB
            clear ja haf
            have xp3 := (H2.out.step hM.out).c 3 rfl
            have xpz := (H2.out.step hM.out).2.2
            rw [HLIT.out]
            go_simp
            exact hK.out _ _ (NS.next (vs := vs) 10 (by omega) (fun q h => absurd h (by simp)) (x := .int .u8 xl) (by rw [HLIT.out]; simp only [upv, e9, Nat.reduceBEq, cond_true, cond_false]) (by rw [HG.out]; exact j4.out) hB.out (by rw [HG.out]; exact fun _ _ h => h) (by rw [HG.out]; exact ⟨fun h => absurd h (by decide), fun h => absurd h (by decide), fun h => absurd h (by decide), fun h => absurd h (by decide), fun _ _ _ _ _ => E10.out.symm⟩))
          · intro bf ac wv hfb haf hJ K' hK
            obtain ⟨vs, rfl, ja, hB, j4⟩ := hJ
            replace hK := Lib.hid hK
            simp [Region.binds] at haf
            rw [HG.out] at j4
            have e10 := ((j4 10 (by simp [haf])).2.2.2.2 (by decide) (by decide) (by decide) (by decide) (by decide)).trans E10.out
            replace j4 := Lib.hid (And.intro ja j4)
            replace hB := Lib.hid hB
            clear ja haf
            rw [HLIT.out]
            go_simp
            exact hK.out _ _ (NS.next (vs := vs) 11 (by omega) (fun q h => absurd h (by simp)) (x := .int .i64 xl) (by rw [HLIT.out]; simp only [upv, e10, HXL.out, Nat.reduceBEq, cond_true, cond_false]) (by rw [HG.out]; exact j4.out) hB.out (by rw [HG.out]; exact fun _ _ h => h) (by rw [HG.out]; exact ⟨fun h => absurd h (by decide), fun h => absurd h (by decide), fun h => absurd h (by decide), fun h => absurd h (by decide), fun _ _ _ _ _ => E11.out.symm⟩))
          · intro bf ac wv hfb haf hJ K' hK
            obtain ⟨vs, rfl, ja, hB, j4⟩ := hJ
            replace hK := Lib.hid hK
            simp [Region.binds] at haf
            rw [HG.out] at j4
            have e11 := ((j4 11 (by simp [haf])).2.2.2.2 (by decide) (by decide) (by decide) (by decide) (by decide)).trans E11.out
            replace j4 := Lib.hid (And.intro ja j4)
            replace hB := Lib.hid hB
            clear ja haf
            rw [HLIT.out]
            go_simp
            exact hK.out _ _ (NS.next (vs := vs) 12 (by omega) (fun q h => absurd h (by simp)) (x := .int .i64 d) (by rw [HLIT.out]; simp only [upv, e11, HXD.out, Nat.reduceBEq, cond_true, cond_false]) (by rw [HG.out]; exact j4.out) hB.out (by rw [HG.out]; exact fun _ _ h => h) (by rw [HG.out]; exact ⟨fun h => absurd h (by decide), fun h => absurd h (by decide), fun h => absurd h (by decide), fun h => absurd h (by decide), fun _ _ _ _ _ => E12.out.symm⟩))
          · intro bf ac wv hfb haf hJ K' hK
            obtain ⟨vs, rfl, ja, hB, j4⟩ := hJ
            replace hK := Lib.hid hK
            simp [Region.binds] at haf
            rw [HG.out] at j4
            have e3 := ((j4 3 (by simp [haf])).2.2.2.2 (by decide) (by decide) (by decide) (by decide) (by decide)).trans E3.out
            have e4 := ((j4 4 (by simp [haf])).2.2.2.2 (by decide) (by decide) (by decide) (by decide) (by decide)).trans E4.out
            have e8 := ((j4 8 (by simp [haf])).2.2.2.2 (by decide) (by decide) (by decide) (by decide) (by decide)).trans E8.out
            have e12 := ((j4 12 (by simp [haf])).2.2.2.2 (by decide) (by decide) (by decide) (by decide) (by decide)).trans E12.out
            have hd : bf 18 = false := by
              cases h : bf 18
              · rfl
              · exact absurd ((ja 18 13 rfl h).symm.trans hfb) (by simp)
            have hM := Lib.hid (hB.1 hd)
            replace j4 := Lib.hid (And.intro ja j4)
            replace hB := Lib.hid hB
            clear ja haf
            rw [HLIT.out]
            go_simp
            go_at_call 11
            refine (wait_w HSN.out HOB.out HN1.out HFP.out HFI.out pa pc _ (H1.out.step hM.out).pp HPL.out).mono ?_
            rintro e w4 ⟨⟨uc, ua, rfl, hp4⟩, b4⟩
            exact hK.out _ _ (NS.next (vs := vs) 13 (by omega) (fun q h => absurd h (by simp)) (x := (.tuple #[.agg #[.int .i64 0, .slice ua 0 uc], .int .i64 30])) (by rw [HLIT.out]; simp only [upv, e3, e4, e8, e12, Nat.reduceBEq, cond_true, cond_false]) (by rw [HG.out]; exact j4.out) ⟨fun _ => keep2 b4 hM.out, fun e => absurd (e.symm.trans hd) (by simp)⟩ (by rw [HG.out]; exact fun k hbk h => ⟨fun q => ((h.1 q)), fun q => ((h.2.1 q)), fun q => ((h.2.2.1 q)), fun q => (by obtain ⟨k9, q1, q2, q3⟩ := (h.2.2.2.1 q); exact ⟨k9, q1, q2, fun e => (q3 e).step b4⟩), h.2.2.2.2⟩) (by rw [HG.out]; exact ⟨fun _ => ⟨uc, ua, rfl⟩, fun h => absurd h (by decide), fun h => absurd h (by decide), fun h => absurd h (by decide), fun h13 => absurd rfl h13⟩))
          · intro bf ac wv hfb haf hJ K' hK
            obtain ⟨vs, rfl, ja, hB, j4⟩ := hJ
            replace hK := Lib.hid hK
            simp [Region.binds] at haf
            rw [HG.out] at j4
            have e13 := (j4 13 (by simp [haf])).1 rfl
            replace j4 := Lib.hid (And.intro ja j4)
            replace hB := Lib.hid hB
            clear ja haf
            obtain ⟨uc, ua, e13⟩ := e13
            rw [HLIT.out]
            go_simp
            exact hK.out _ _ (NS.next (vs := vs) 14 (by omega) (fun q h => absurd h (by simp)) (x := (.tuple #[.agg #[.int .i64 0, .slice ua 0 uc], .int .i64 30])) (by rw [HLIT.out]; simp only [upv, e13, Nat.reduceBEq, cond_true, cond_false]) (by rw [HG.out]; exact j4.out) hB.out (by rw [HG.out]; exact fun _ _ h => h) (by rw [HG.out]; exact ⟨fun h => absurd h (by decide), fun _ => ⟨uc, ua, rfl⟩, fun h => absurd h (by decide), fun h => absurd h (by decide), fun h13 h14 => absurd rfl h14⟩))
          · intro bf ac wv hfb haf hJ K' hK
            obtain ⟨vs, rfl, ja, hB, j4⟩ := hJ
            replace hK := Lib.hid hK
            simp [Region.binds] at haf
            rw [HG.out] at j4
            have e14 := (j4 14 (by simp [haf])).2.1 rfl
            replace j4 := Lib.hid (And.intro ja j4)
            replace hB := Lib.hid hB
            clear ja haf
            obtain ⟨uc, ua, e14⟩ := e14
            rw [HLIT.out]
            go_simp
            exact hK.out _ _ (NS.next (vs := vs) 15 (by omega) (fun q h => absurd h (by simp)) (x := (.agg #[.int .i64 0, .slice ua 0 uc])) (by rw [HLIT.out]; simp only [upv, e14, Nat.reduceBEq, cond_true, cond_false]) (by rw [HG.out]; exact j4.out) hB.out (by rw [HG.out]; exact fun _ _ h => h) (by rw [HG.out]; exact ⟨fun h => absurd h (by decide), fun h => absurd h (by decide), fun _ => ⟨uc, ua, rfl⟩, fun h => absurd h (by decide), fun h13 h14 h15 => absurd rfl h15⟩))
          · intro bf ac wv hfb haf hJ K' hK
            obtain ⟨vs, rfl, ja, hB, j4⟩ := hJ
            replace hK := Lib.hid hK
            simp [Region.binds] at haf
            rw [HG.out] at j4
            have e14 := (j4 14 (by simp [haf])).2.1 rfl
            replace j4 := Lib.hid (And.intro ja j4)
            replace hB := Lib.hid hB
            clear ja haf
            obtain ⟨uc, ua, e14⟩ := e14
            rw [HLIT.out]
            go_simp
            exact hK.out _ _ (NS.next (vs := vs) 16 (by omega) (fun q h => absurd h (by simp)) (x := .int .i64 30) (by rw [HLIT.out]; simp only [upv, e14, Nat.reduceBEq, cond_true, cond_false]) (by rw [HG.out]; exact j4.out) hB.out (by rw [HG.out]; exact fun _ _ h => h) (by rw [HG.out]; exact ⟨fun h => absurd h (by decide), fun h => absurd h (by decide), fun h => absurd h (by decide), fun h => absurd h (by decide), fun _ _ _ _ _ => E16.out.symm⟩))
          · intro bf ac wv hfb haf hJ K' hK
            obtain ⟨vs, rfl, ja, hB, j4⟩ := hJ
            replace hK := Lib.hid hK
            rw [HG.out] at j4
            have hd : bf 18 = false := by
              cases h : bf 18
              · rfl
              · exact absurd ((ja 18 17 rfl h).symm.trans hfb) (by simp)
            have hM := Lib.hid (hB.1 hd)
            replace j4 := Lib.hid (And.intro ja j4)
            replace hB := Lib.hid hB
            clear ja haf
            rw [HLIT.out]
            go_simp
            have b4 := al wv (.cells Z2 24)
            exact hK.out _ _ (NS.next (vs := vs) 17 (by omega) (fun q h => absurd h (by simp)) (x := (.pointer (some ⟨wv.heap.size, 0, none⟩))) (by rw [HLIT.out]; rfl) (by rw [HG.out]; exact j4.out) ⟨fun _ => keep2 b4 hM.out, fun e => absurd (e.symm.trans hd) (by simp)⟩ (by rw [HG.out]; exact fun k hbk h => ⟨fun q => ((h.1 q)), fun q => ((h.2.1 q)), fun q => ((h.2.2.1 q)), fun q => (by obtain ⟨k9, q1, q2, q3⟩ := (h.2.2.2.1 q); exact ⟨k9, q1, q2, fun e => (q3 e).step b4⟩), h.2.2.2.2⟩) (by rw [HG.out]; exact ⟨fun h => absurd h (by decide), fun h => absurd h (by decide), fun h => absurd h (by decide), fun _ => ⟨wv.heap.size, rfl, hM.out.size, fun _ => BoxN.new wv Z2 24⟩, fun h13 h14 h15 h17 => absurd rfl h17⟩))
          · intro bf ac wv hfb haf hJ K' hK
            obtain ⟨vs, rfl, ja, hB, j4⟩ := hJ
            replace hK := Lib.hid hK
            simp [Region.binds] at haf
            rw [HG.out] at j4
            have e15 := (j4 15 (by simp [haf])).2.2.1 rfl
            have e17 := (j4 17 (by simp [haf])).2.2.2.1 rfl
            rw [hfb] at j4 hB
            try rw [hfb] at e15
            try rw [hfb] at e17
            have HA := Lib.hid (show ∀ q, (fun p q => (p == 18 && q == 3) || (p == 18 && q == 6) || (p == 18 && q == 10) || (p == 18 && q == 13) || (p == 18 && q == 15) || (p == 18 && q == 17)) 18 q = true → bf q = true from fun q hi => by
              obtain rfl | rfl | rfl | rfl | rfl | rfl : q = 3 ∨ q = 6 ∨ q = 10 ∨ q = 13 ∨ q = 15 ∨ q = 17 := by simpa [or_assoc] using hi
              all_goals simp [haf])
            have hM := Lib.hid (hB.1 rfl)
            replace j4 := Lib.hid j4
            have HE := Lib.hid (And.intro ja HA.out)
            clear ja haf hB HA
            obtain ⟨k, e17, hk, hz⟩ := e17
            replace hz := hz rfl
            obtain ⟨uc, ua, e15⟩ := e15
            replace hk := Lib.hid hk
            have HZ := Lib.hid hz
            have HZC := Lib.hid (Cs.of_heap hz)
            have x0 := HZC.out.c 0 rfl
            have y0 := HZC.out.f 0 (by simp [Z2])
            have x1 := HZC.out.c 1 rfl
            have y1 := HZC.out.f 1 (by simp [Z2])
            have xz := HZC.out.2.2
            clear hz
            rw [HLIT.out]
            go_simp
            exact hK.out _ _ (NS.put (vs := vs) (by rw [HLIT.out]; simp only [e17, e15]) HE.out ⟨fun e => (by cases e), fun _ => (hM.out.setCell (p := ⟨k, 0, none⟩) hk.out _).setCell (p := ⟨k, 1, none⟩) hk.out _⟩ (fun j hj hb => by
              rw [HG.out]
              have q := j4.out j hb
              exact ⟨q.1, q.2.1, q.2.2.1, fun h => by
                subst h
                exact ⟨k, e17, hk.out, fun e => (by cases e)⟩, q.2.2.2.2⟩) (fun v => by rw [HG.out]; exact ⟨fun h => absurd h (by decide), fun h => absurd h (by decide), fun h => absurd h (by decide), fun h => absurd h (by decide), fun h13 h14 h15 h17 h18 => absurd rfl h18⟩))
          · intro bf ac wv hfb haf hJ K' hK
            obtain ⟨vs, rfl, ja, hB, j4⟩ := hJ
            replace hK := Lib.hid hK
            simp [Region.binds] at haf
            rw [HG.out] at j4
            have e16 := ((j4 16 (by simp [haf])).2.2.2.2 (by decide) (by decide) (by decide) (by decide) (by decide)).trans E16.out
            replace j4 := Lib.hid (And.intro ja j4)
            replace hB := Lib.hid hB
            clear ja haf
            rw [HLIT.out]
            go_simp
            exact hK.out _ _ (NS.next (vs := vs) 19 (by omega) (fun q h => absurd h (by simp)) (x := .int .i64 30) (by rw [HLIT.out]; simp only [upv, e16, Nat.reduceBEq, cond_true, cond_false]) (by rw [HG.out]; exact j4.out) hB.out (by rw [HG.out]; exact fun _ _ h => h) (by rw [HG.out]; exact ⟨fun h => absurd h (by decide), fun h => absurd h (by decide), fun h => absurd h (by decide), fun h => absurd h (by decide), fun _ _ _ _ _ => E19.out.symm⟩))
        · intro bf ac wv hall hJ
          obtain ⟨vs, rfl, -, hB, j4⟩ := hJ
          rw [HG.out] at j4
          rw [hall 18 (by decide)] at hB j4
          have hM := Lib.hid (hB.2 rfl)
          clear hB
          obtain ⟨k, e17, -, -⟩ := (j4 17 (hall 17 (by decide))).2.2.2.1 rfl
          have e19 := ((j4 19 (hall 19 (by decide))).2.2.2.2 (by decide) (by decide) (by decide) (by decide) (by decide)).trans E19.out
          clear j4 hall
          rw [HLIT.out]
          dsimp only
          rw [e17, e19]
          clear e17 e19
          go_wp2
          go_meet
          exact ⟨rfl, ⟨k, rfl⟩, hM.out⟩
      case rest =>
        obtain ⟨rfl, ⟨k, rfl⟩, b5⟩ := hcut
        have H4 := Lib.hid (H1.out.step b5)
        have H5 := Lib.hid (H2.out.step b5)
        have H6 := Lib.hid (keepB H3.out b5 HLE.out)
        clear H1 H2 H3
        replace HLE := Lib.hid (H4.out.le)
        clear b5
        have HFE := Lib.hid (show (P.getD 0 zO).a = nx - 16 from by have h1 := (HSN.out.2 0 HFP.out).2.1; have h2 := HFI.out; have h3 : lst nx P 0 = nx - 16 := rfl; omega)
        obtain ⟨xa, xc, hv1, -, -, hx⟩ := H4.out.pp
        obtain ⟨rfl, rfl⟩ : pa = xa ∧ pc = xc := by simpa using hv1
        obtain ⟨b1, p1, rfl, hx1⟩ := hx (by intro q; have h1 := HFP.out; rw [q] at h1; simp at h1)
        obtain ⟨y0, -, -, -⟩ := hx1 0 _ (od_get HFP.out)
        rw [HFE.out] at y0
        simp only [Nat.zero_mul, Nat.add_zero] at y0
        have yz := World.block_lt_of_cell? _ _ y0
        have yz : b1 < wc.heap.size := yz
        clear hx hx1 hv1
        have t1 : (0 : Int) < (P.length : Int) := by have := HFP.out; omega
        have t2 : decide ((0 : Int) < (P.length : Int)) = true := decide_eq_true t1
        have t3 : 0 < P.length := HFP.out
        have t4 := HW16.out
        go_upto_region 7 with fail
        have xw0 := H4.out.cs.c 0 rfl
        have xw1 := H4.out.cs.c 1 rfl
        have xwz := H4.out.cs.2.2
        go_quiet (fail)
        obtain ⟨wd, hwd⟩ : ∃ z, wc.drewN nq = z := ⟨_, rfl⟩
        have b6 : Below wc.heap.size wc wd := by rw [← hwd]; exact below_drewN' _ _ _
        rw [hwd]
        clear hwd y0 yz
        clear xw0 xw1 xwz
        have H7 := Lib.hid (H4.out.step b6)
        have H8 := Lib.hid (H5.out.step b6)
        have H9 := Lib.hid (keepB H6.out b6 HLE.out)
        clear H4 H5 H6
        replace HLE := Lib.hid (H7.out.le)
        go_wp2
        go_ret
        exact ⟨rfl, ⟨_, _, _, _, _, _, _, _, _, _, H7.out⟩, H9.out⟩
set_option maxRecDepth 100000 in
set_option maxHeartbeats 8000000 in
theorem step_arr {base n : Nat} {pa ta va aa da : Option Addr} {pc tc vc ac dc : Nat} {nx : Int} {P : List Od} {t : Int} {L : List Bool} {f : Int} {V : List Int} {dn : Int} {A D : List Od} {xd xw xv xl xf : Int} {w : World} (h : WdA base n pa ta va aa da pc tc vc ac dc nx P t L f V dn A D w) (sm : Bool) {r3 : Int} {cf : Bool} (hr3 : xd.tmod 3 = r3) (h0 : ¬ r3 = 0) (h2 : (r3 == 2) = cf) {j : Nat} (hj : j < A.length) {x : Od} (hjx : A[j]? = some x) (_ : wrap64 xw = xw) (hw3 : IntKind.i64.wrap xw = xw) (hw2 : xw.tmod (A.length : Int) = (j : Int)) {R : World → Prop}
    (hcall : ∀ w1, WdA base n pa ta va aa da pc tc vc ac dc nx P t L f V dn A D w1 → Calls Try.prog 22 #[.pointer (some ⟨n, 0, none⟩), .agg #[.int .i64 x.a, .int .i64 x.b, .int .i64 x.c, .int .i64 x.d], .bool cf] w1 fun e w' => e = .returned (.bool true) ∧ R w' ∧ Below base w1 w') :
    Calls Try.prog 44 #[.pointer (some ⟨n, 0, none⟩), .agg #[.int .u8 xd, .int .u8 xw, .int .u8 xv, .int .u8 xl, .int .u8 xf], .bool sm] w fun e w' => e = .returned (.bool true) ∧ R w' ∧ Below base w w' := by
  have hods := ods_of_row rfl h.al
  obtain ⟨xa, xc, hv1, -, -, hx⟩ := hods
  obtain ⟨rfl, rfl⟩ : aa = xa ∧ ac = xc := by simpa using hv1
  obtain ⟨b1, p1, rfl, hx1⟩ := hx (by intro q; rw [q] at hj; simp at hj)
  obtain ⟨y0, y1, y2, y3⟩ := hx1 j x hjx
  have HY := Lib.hid (And.intro y0 (And.intro y1 (And.intro y2 y3)))
  clear hx hx1 hv1 y0 y1 y2 y3
  obtain ⟨a, b, c, d⟩ := x
  have HCALL := Lib.hid hcall
  clear hcall hjx
  have g1 : (r3 == 0) = false := beq_eq_false_iff_ne.2 h0
  have g2 : decide (r3 = 0) = false := decide_eq_false h0
  have g4 : decide (r3 = 2) = cf := by rw [← h2]; rfl
  have g5 : ¬ (A.length = 0) := by omega
  have g6 : ¬ ((A.length : Int) = 0) := by omega
  have g7 : ((A.length : Int) == 0) = false := beq_eq_false_iff_ne.2 g6
  have g8 : decide ((A.length : Int) = 0) = false := decide_eq_false g6
  have g9 : (j : Int) < (A.length : Int) := by omega
  have HNA := Lib.hid (show A ≠ [] by intro q; rw [q] at hj; simp at hj)
  have H1 := Lib.hid (h.step (al w (.cells #[.int .u8 xd, .int .u8 xw, .int .u8 xv, .int .u8 xl, .int .u8 xf] 80)))
  have H2 := Lib.hid (Cs.new w w.heap.size #[.int .u8 xd, .int .u8 xw, .int .u8 xv, .int .u8 xl, .int .u8 xf] 80 rfl)
  have HLE := Lib.hid (h.le)
  have H3 := Lib.hid (keepB (Below.refl base w) (al w (.cells #[.int .u8 xd, .int .u8 xw, .int .u8 xv, .int .u8 xl, .int .u8 xf] 80)) HLE.out)
  replace HLE := Lib.hid (H1.out.le)
  have HNW := Lib.hid h.cs.2.2
  have HBN := Lib.hid h.bn
  clear h
  go_enter Try.func44, Try.ntmps44
  go_upto_region 1 with fail
  obtain ⟨wq, hwq⟩ : ∃ z, w.alloc (.cells #[.int .u8 xd, .int .u8 xw, .int .u8 xv, .int .u8 xl, .int .u8 xf] 80) = z := ⟨_, rfl⟩
  have HBQ := Lib.hid (show Below w.heap.size w wq from by rw [← hwq]; exact al _ _)
  rw [hwq] at H1 H2 H3 HLE ⊢
  clear hwq
  have xw7 := H1.out.cs.c 7 rfl
  have xwz := H1.out.cs.2.2
  have xo0 := H2.out.c 0 rfl
  have xo4 := H2.out.c 4 rfl
  have xoz := H2.out.2.2
  skip
  have HYq := Lib.hid (show wq.cell? ⟨b1, p1 + j * 4, none⟩ = some (.int .i64 a) ∧ wq.cell? ⟨b1, p1 + j * 4 + 1, none⟩ = some (.int .i64 b) ∧ wq.cell? ⟨b1, p1 + j * 4 + 2, none⟩ = some (.int .i64 c) ∧ wq.cell? ⟨b1, p1 + j * 4 + 3, none⟩ = some (.int .i64 d) from by
    have hq := HBQ.out
    exact ⟨keep1 hq HY.out.1, keep1 hq HY.out.2.1, keep1 hq HY.out.2.2.1, keep1 hq HY.out.2.2.2⟩)
  clear HY HBQ
  go_upto_region 13 with fail
  clear xw7 xwz xo0 xo4 xoz
  have xw7 := H1.out.cs.c 7 rfl
  have xwz := H1.out.cs.2.2
  have xo0 := H2.out.c 0 rfl
  have xo1 := H2.out.c 1 rfl
  have xoz := H2.out.2.2
  obtain ⟨y0, y1, y2, y3⟩ := HYq.out
  have yz : b1 < wq.heap.size := World.block_lt_of_cell? _ _ y0
  go_still_tail 20, (by kernel_rfl)
  change wpList _ _ _ _ _ wq.drew
  obtain ⟨w2, hw2⟩ : ∃ z, wq.drew = z := ⟨_, rfl⟩
  have b0 : Below wq.heap.size wq w2 := by rw [← hw2]; exact below_drew _ _
  rw [hw2]
  clear hw2
  clear xw7 xwz xo0 xo1 xoz y0 y1 y2 y3 yz
  have H4 := Lib.hid (H1.out.step b0)
  have H5 := Lib.hid (H2.out.step b0)
  have H6 := Lib.hid (keepB H3.out b0 HLE.out)
  clear H1 H2 H3
  replace HLE := Lib.hid (H4.out.le)
  go_wp2_with fail
  refine (HCALL.out _ H4.out).mono ?_
  rintro e w3 ⟨rfl, hR, b3⟩
  replace hR := Lib.hid hR
  have HB9 := Lib.hid (H6.out.trans b3)
  clear b3 HCALL
  go_wp2
  go_ret
  exact ⟨rfl, hR.out, HB9.out⟩

set_option maxRecDepth 100000 in
set_option maxHeartbeats 8000000 in
theorem step_ok {base n : Nat} {pa ta va aa da : Option Addr} {pc tc vc ac dc : Nat} {nx : Int} {P : List Od} {t : Int} {L : List Bool} {f : Int} {V : List Int} {dn : Int} {A D : List Od} {xd xw xv xl xf : Int} {w : World} (h : WdA base n pa ta va aa da pc tc vc ac dc nx P t L f V dn A D w) (sm : Bool) (hc0 : xd.tmod 3 = 0 ∨ (¬ xd.tmod 3 = 0 ∧ A = [])) {b c d : Int} (hfb1 : sm = true → b = 1) (hfb2 : sm = false → (wrap64 xf).tmod 4 = b) (hxv : 0 ≤ xv ∧ xv ≤ 255) (hxl : 0 ≤ xl ∧ xl ≤ 255) (hxc : xv.tmod 4 = c) (hxd : xl.tmod 16 = d) (hsn : SnP nx P) (hob : orB 0 b c d = true) (hn1 : ¬ 1000000 < nx) (hpl : P.length ≤ 100000) (hfi : 0 < P.length → nx - 16 < (P.getD 0 zO).a) {P' A' : List Od} (hpx : P' = P ++ [⟨nx, b, c, d⟩]) (hax : A' = A ++ [⟨nx, b, c, d⟩]) (hal : A.length ≤ 100000) :
    Calls Try.prog 44 #[.pointer (some ⟨n, 0, none⟩), .agg #[.int .u8 xd, .int .u8 xw, .int .u8 xv, .int .u8 xl, .int .u8 xf], .bool sm] w fun e w' => e = .returned (.bool true) ∧ WdP base n (nx + 1) P' t L f V dn A' D w' ∧ Below base w w' := by
  have H1 := Lib.hid (h.step (al w (.cells #[.int .u8 xd, .int .u8 xw, .int .u8 xv, .int .u8 xl, .int .u8 xf] 80)))
  have H2 := Lib.hid (Cs.new w w.heap.size #[.int .u8 xd, .int .u8 xw, .int .u8 xv, .int .u8 xl, .int .u8 xf] 80 rfl)
  have HLE := Lib.hid (h.le)
  have H3 := Lib.hid (keepB (Below.refl base w) (al w (.cells #[.int .u8 xd, .int .u8 xw, .int .u8 xv, .int .u8 xl, .int .u8 xf] 80)) HLE.out)
  replace HLE := Lib.hid (H1.out.le)
  have HNW := Lib.hid h.cs.2.2
  have HBN := Lib.hid h.bn
  have HC0 := Lib.hid hc0
  have HFB1 := Lib.hid hfb1
  have HFB2 := Lib.hid hfb2
  have HXV := Lib.hid (show IntKind.i64.wrap xv = xv from IntWalk.i64_in _ (by omega))
  have HXL := Lib.hid (show IntKind.i64.wrap xl = xl from IntWalk.i64_in _ (by omega))
  have HXC := Lib.hid hxc
  have HXD := Lib.hid hxd
  have HSN := Lib.hid hsn
  have HOB := Lib.hid hob
  have HN1 := Lib.hid hn1
  have HFI := Lib.hid hfi
  have HPL := Lib.hid hpl
  have HW1 := Lib.hid (show wrap64 (nx + 1) = nx + 1 from IntWalk.wrap64_in _ (by have := hsn.1; omega))
  have HW16 := Lib.hid (show wrap64 (nx - 16) = nx - 16 from IntWalk.wrap64_in _ (by have := hsn.1; omega))
  have HPX := Lib.hid hpx
  have HPN := Lib.hid (show P' ≠ [] by rw [hpx]; simp)
  have HAX := Lib.hid hax
  have HAL := Lib.hid hal
  clear hc0 hfb1 hfb2 hxv hxl hxc hxd hsn hob hn1 hfi hpl hpx hax hal
  clear h
  go_enter Try.func44, Try.ntmps44
  go_upto_region 1 with fail
  obtain ⟨wq, hwq⟩ : ∃ z, w.alloc (.cells #[.int .u8 xd, .int .u8 xw, .int .u8 xv, .int .u8 xl, .int .u8 xf] 80) = z := ⟨_, rfl⟩
  rw [hwq] at H1 H2 H3 HLE ⊢
  clear hwq
  have xw7 := H1.out.cs.c 7 rfl
  have xwz := H1.out.cs.2.2
  have xo0 := H2.out.c 0 rfl
  have xo4 := H2.out.c 4 rfl
  have xoz := H2.out.2.2
  go_cut [21] from 10 to 20 (fun p1 wc => p1 = .bool true ∧ wc = wq)
  case first =>
    rcases HC0.out with h0 | ⟨h0, h1⟩
    · go_wp2
      go_meet
      exact ⟨rfl, rfl⟩
    · have h2 : A.length = 0 := by rw [h1]; rfl
      go_wp2
      go_meet
      exact ⟨by simp, rfl⟩
  case rest =>
    obtain ⟨rfl, hwc⟩ := hcut
    replace hwc := hwc.symm
    subst hwc
    clear xw7 xwz xo0 xo4 xoz
    have xo4 := H2.out.c 4 rfl
    have xoz := H2.out.2.2
    go_upto_region 3 with fail
    go_upto_if 26 with fail
    go_cut [7] from 22 to 26 (fun p1 wc => p1 = .int .i64 b ∧ wc = wq)
    case first =>
      cases sm
      · have hfx := HFB2.out rfl
        go_wp2
        go_meet
        exact ⟨rfl, rfl⟩
      · have hfx := HFB1.out rfl
        subst hfx
        go_wp2
        go_meet
        exact ⟨rfl, rfl⟩
    case rest =>
      obtain ⟨rfl, hwc⟩ := hcut
      replace hwc := hwc.symm
      subst hwc
      clear xo4 xoz
      go_upto_region 5 with fail
      go_cut [9, 8] from 27 to 43 (fun p2 p1 wc => p2 = .int .i64 0 ∧ ∃ (k uc : Nat) (ua : Option Addr), p1 = .pointer (some ⟨k, 0, none⟩) ∧ wq.heap.size ≤ k ∧ Cs wc k #[.int .i64 (nx + 1), .slice ua P'.length uc] ∧ OdsAt wc (.slice ua P'.length uc) P' ∧ (∀ g o, ua = some ⟨g, o, none⟩ → wq.heap.size ≤ g) ∧ Below wq.heap.size wq wc)
      case first =>
        obtain ⟨lit, hlit⟩ : ∃ lit : (Nat → Value) → Act, lit = fun vs => { tmps := List.toArray (Value.pointer (some { block := n, off := 0 }) :: Value.agg #[Value.int IntKind.u8 xd, Value.int IntKind.u8 xw, Value.int IntKind.u8 xv, Value.int IntKind.u8 xl, Value.int IntKind.u8 xf] :: Value.bool sm :: undef :: Value.pointer (some { block := w.heap.size, off := 0 }) :: undef :: Value.bool false :: Value.int IntKind.i64 b :: vs 17 :: vs 19 :: u10 :: u11 :: u12 :: u13 :: u14 :: u15 :: u16 :: u17 :: u18 :: u19 :: u20 :: Value.bool true :: u22 :: u23 :: u24 :: u25 :: u26 :: vs 14 :: vs 0 :: vs 1 :: vs 2 :: vs 3 :: vs 4 :: vs 5 :: vs 6 :: vs 7 :: vs 8 :: vs 9 :: vs 10 :: vs 11 :: vs 12 :: vs 13 :: vs 15 :: vs 16 :: undef :: undef :: undef :: undef :: undef :: undef :: undef :: undef :: undef :: undef :: undef :: undef :: undef :: undef :: undef :: undef :: undef :: undef :: undef :: undef :: undef :: undef :: undef :: undef :: undef :: undef :: undef :: undef :: undef :: undef :: undef :: undef :: undef :: undef :: undef :: undef :: undef :: undef :: undef :: undef :: undef :: undef :: undef :: undef :: undef :: undef :: undef :: undef :: undef :: undef :: undef :: undef :: undef :: undef :: undef :: undef :: undef :: undef :: undef :: undef :: undef :: undef :: undef :: undef :: undef :: undef :: undef :: undef :: undef :: undef :: undef :: undef :: undef :: undef :: undef :: undef :: undef :: undef :: undef :: undef :: undef :: undef :: undef :: undef :: undef :: undef :: undef :: []), defers := [] } := ⟨_, rfl⟩
        have HLIT := Lib.hid hlit
        clear hlit
        obtain ⟨val, hval⟩ : ∃ val : List Value, val = [.pointer (some ⟨n, 0, none⟩), .pointer (some ⟨n, 0, none⟩), .pointer (some ⟨n, 0, none⟩), .agg #[.int .i64 nx, .slice pa P.length pc], .int .i64 b, .pointer (some ⟨w.heap.size, 2, none⟩), .int .u8 xv, .int .i64 xv, .int .i64 c, .pointer (some ⟨w.heap.size, 3, none⟩), .int .u8 xl, .int .i64 xl, .int .i64 d, undef, undef, undef, .int .i64 0, undef, undef, .int .i64 0] := ⟨_, rfl⟩
        have E0 := Lib.hid (show val.getD 0 undef = .pointer (some ⟨n, 0, none⟩) by rw [hval]; rfl)
        have E1 := Lib.hid (show val.getD 1 undef = .pointer (some ⟨n, 0, none⟩) by rw [hval]; rfl)
        have E2 := Lib.hid (show val.getD 2 undef = .pointer (some ⟨n, 0, none⟩) by rw [hval]; rfl)
        have E3 := Lib.hid (show val.getD 3 undef = .agg #[.int .i64 nx, .slice pa P.length pc] by rw [hval]; rfl)
        have E4 := Lib.hid (show val.getD 4 undef = .int .i64 b by rw [hval]; rfl)
        have E5 := Lib.hid (show val.getD 5 undef = .pointer (some ⟨w.heap.size, 2, none⟩) by rw [hval]; rfl)
        have E6 := Lib.hid (show val.getD 6 undef = .int .u8 xv by rw [hval]; rfl)
        have E7 := Lib.hid (show val.getD 7 undef = .int .i64 xv by rw [hval]; rfl)
        have E8 := Lib.hid (show val.getD 8 undef = .int .i64 c by rw [hval]; rfl)
        have E9 := Lib.hid (show val.getD 9 undef = .pointer (some ⟨w.heap.size, 3, none⟩) by rw [hval]; rfl)
        have E10 := Lib.hid (show val.getD 10 undef = .int .u8 xl by rw [hval]; rfl)
        have E11 := Lib.hid (show val.getD 11 undef = .int .i64 xl by rw [hval]; rfl)
        have E12 := Lib.hid (show val.getD 12 undef = .int .i64 d by rw [hval]; rfl)
        have E16 := Lib.hid (show val.getD 16 undef = .int .i64 0 by rw [hval]; rfl)
        have E19 := Lib.hid (show val.getD 19 undef = .int .i64 0 by rw [hval]; rfl)
        clear hval
        obtain ⟨G, hG0⟩ : ∃ G : Bool → Nat → Value → World → Prop, G = (fun bq iq vq ww => (iq = 13 → Qsu wq.heap.size (nx + 1) P' 0 bq vq ww) ∧ (iq = 14 → Qsu wq.heap.size (nx + 1) P' 0 bq vq ww) ∧ (iq = 15 → Qsd wq.heap.size (nx + 1) P' bq vq ww) ∧ (iq = 17 → Qsk wq.heap.size (nx + 1) P' bq vq ww) ∧ (iq ≠ 13 → iq ≠ 14 → iq ≠ 15 → iq ≠ 17 → iq ≠ 18 → vq = val.getD iq undef)) := ⟨_, rfl⟩
        have HG := Lib.hid hG0
        clear hG0
        refine region_inv (NS lit 18 (fun p q => (p == 18 && q == 3) || (p == 18 && q == 6) || (p == 18 && q == 10) || (p == 18 && q == 13) || (p == 18 && q == 15) || (p == 18 && q == 17)) G fun bq wv => (bq = false → Below wq.heap.size wq wv) ∧ (bq = true → Below wq.heap.size wq wv)) (by kernel_rfl) (by decide +kernel) ?_ ?_ ?_
        · exact NS.start (fun i => ([undef, undef, undef, undef, undef, undef, undef, undef, undef, undef, undef, undef, undef, undef, undef, undef, undef, undef, undef, undef] : List Value).getD i undef) (by rw [HLIT.out]; rfl) ⟨fun _ => below_drew _ _, fun h => (by cases h)⟩
        · refine ⟨?_, ?_, ?_, ?_, ?_, ?_, ?_, ?_, ?_, ?_, ?_, ?_, ?_, ?_, ?_, ?_, ?_, ?_, ?_, ?_, trivial⟩
          · intro bf ac wv hfb haf hJ K' hK
            obtain ⟨vs, rfl, ja, hB, j4⟩ := hJ
            replace hK := Lib.hid hK
            rw [HG.out] at j4
            replace j4 := Lib.hid (And.intro ja j4)
            replace hB := Lib.hid hB
            clear ja haf
            rw [HLIT.out]
            go_simp
            exact hK.out _ _ (NS.next (vs := vs) 0 (by omega) (fun q h => absurd h (by simp)) (x := .pointer (some ⟨n, 0, none⟩)) (by rw [HLIT.out]; rfl) (by rw [HG.out]; exact j4.out) hB.out (by rw [HG.out]; exact fun _ _ h => h) (by rw [HG.out]; exact ⟨fun h => absurd h (by decide), fun h => absurd h (by decide), fun h => absurd h (by decide), fun h => absurd h (by decide), fun _ _ _ _ _ => E0.out.symm⟩))
          · intro bf ac wv hfb haf hJ K' hK
            obtain ⟨vs, rfl, ja, hB, j4⟩ := hJ
            replace hK := Lib.hid hK
            simp [Region.binds] at haf
            rw [HG.out] at j4
            have e0 := ((j4 0 (by simp [haf])).2.2.2.2 (by decide) (by decide) (by decide) (by decide) (by decide)).trans E0.out
            replace j4 := Lib.hid (And.intro ja j4)
            replace hB := Lib.hid hB
            clear ja haf
            rw [HLIT.out]
            go_simp
            exact hK.out _ _ (NS.next (vs := vs) 1 (by omega) (fun q h => absurd h (by simp)) (x := .pointer (some ⟨n, 0, none⟩)) (by rw [HLIT.out]; simp only [upv, e0, Nat.reduceBEq, cond_true, cond_false]) (by rw [HG.out]; exact j4.out) hB.out (by rw [HG.out]; exact fun _ _ h => h) (by rw [HG.out]; exact ⟨fun h => absurd h (by decide), fun h => absurd h (by decide), fun h => absurd h (by decide), fun h => absurd h (by decide), fun _ _ _ _ _ => E1.out.symm⟩))
          · intro bf ac wv hfb haf hJ K' hK
            obtain ⟨vs, rfl, ja, hB, j4⟩ := hJ
            replace hK := Lib.hid hK
            simp [Region.binds] at haf
            rw [HG.out] at j4
            have e1 := ((j4 1 (by simp [haf])).2.2.2.2 (by decide) (by decide) (by decide) (by decide) (by decide)).trans E1.out
            replace j4 := Lib.hid (And.intro ja j4)
            replace hB := Lib.hid hB
            clear ja haf
            rw [HLIT.out]
            go_simp
            exact hK.out _ _ (NS.next (vs := vs) 2 (by omega) (fun q h => absurd h (by simp)) (x := .pointer (some ⟨n, 0, none⟩)) (by rw [HLIT.out]; simp only [upv, e1, Nat.reduceBEq, cond_true, cond_false]) (by rw [HG.out]; exact j4.out) hB.out (by rw [HG.out]; exact fun _ _ h => h) (by rw [HG.out]; exact ⟨fun h => absurd h (by decide), fun h => absurd h (by decide), fun h => absurd h (by decide), fun h => absurd h (by decide), fun _ _ _ _ _ => E2.out.symm⟩))
          · intro bf ac wv hfb haf hJ K' hK
            obtain ⟨vs, rfl, ja, hB, j4⟩ := hJ
            replace hK := Lib.hid hK
            simp [Region.binds] at haf
            rw [HG.out] at j4
            have e2 := ((j4 2 (by simp [haf])).2.2.2.2 (by decide) (by decide) (by decide) (by decide) (by decide)).trans E2.out
            have hd : bf 18 = false := by
              cases h : bf 18
              · rfl
              · exact absurd ((ja 18 3 rfl h).symm.trans hfb) (by simp)
            have hM := Lib.hid (hB.1 hd)
            replace j4 := Lib.hid (And.intro ja j4)
            replace hB := Lib.hid hB
            clear ja haf
            have xx0 := (H1.out.step hM.out).cs.c 0 rfl
            have xx1 := (H1.out.step hM.out).cs.c 1 rfl
            have xxz := (H1.out.step hM.out).cs.2.2
            rw [HLIT.out]
            go_simp
            exact hK.out _ _ (NS.next (vs := vs) 3 (by omega) (fun q h => absurd h (by simp)) (x := .agg #[.int .i64 nx, .slice pa P.length pc]) (by rw [HLIT.out]; simp only [upv, e2, Nat.reduceBEq, cond_true, cond_false]) (by rw [HG.out]; exact j4.out) hB.out (by rw [HG.out]; exact fun _ _ h => h) (by rw [HG.out]; exact ⟨fun h => absurd h (by decide), fun h => absurd h (by decide), fun h => absurd h (by decide), fun h => absurd h (by decide), fun _ _ _ _ _ => E3.out.symm⟩))
          · intro bf ac wv hfb haf hJ K' hK
            obtain ⟨vs, rfl, ja, hB, j4⟩ := hJ
            replace hK := Lib.hid hK
            rw [HG.out] at j4
            replace j4 := Lib.hid (And.intro ja j4)
            replace hB := Lib.hid hB
            clear ja haf
            rw [HLIT.out]
            go_simp
            exact hK.out _ _ (NS.next (vs := vs) 4 (by omega) (fun q h => absurd h (by simp)) (x := .int .i64 b) (by rw [HLIT.out]; rfl) (by rw [HG.out]; exact j4.out) hB.out (by rw [HG.out]; exact fun _ _ h => h) (by rw [HG.out]; exact ⟨fun h => absurd h (by decide), fun h => absurd h (by decide), fun h => absurd h (by decide), fun h => absurd h (by decide), fun _ _ _ _ _ => E4.out.symm⟩))
          · intro bf ac wv hfb haf hJ K' hK
            obtain ⟨vs, rfl, ja, hB, j4⟩ := hJ
            replace hK := Lib.hid hK
            rw [HG.out] at j4
            replace j4 := Lib.hid (And.intro ja j4)
            replace hB := Lib.hid hB
            clear ja haf
            rw [HLIT.out]
            go_simp
            exact hK.out _ _ (NS.next (vs := vs) 5 (by omega) (fun q h => absurd h (by simp)) (x := .pointer (some ⟨w.heap.size, 2, none⟩)) (by rw [HLIT.out]; rfl) (by rw [HG.out]; exact j4.out) hB.out (by rw [HG.out]; exact fun _ _ h => h) (by rw [HG.out]; exact ⟨fun h => absurd h (by decide), fun h => absurd h (by decide), fun h => absurd h (by decide), fun h => absurd h (by decide), fun _ _ _ _ _ => E5.out.symm⟩))
          · intro bf ac wv hfb haf hJ K' hK
            obtain ⟨vs, rfl, ja, hB, j4⟩ := hJ
            replace hK := Lib.hid hK
            simp [Region.binds] at haf
            rw [HG.out] at j4
            have e5 := ((j4 5 (by simp [haf])).2.2.2.2 (by decide) (by decide) (by decide) (by decide) (by decide)).trans E5.out
            have hd : bf 18 = false := by
              cases h : bf 18
              · rfl
              · exact absurd ((ja 18 6 rfl h).symm.trans hfb) (by simp)
            have hM := Lib.hid (hB.1 hd)
            replace j4 := Lib.hid (And.intro ja j4)
            replace hB := Lib.hid hB
            clear ja haf
            have xp2 := (H2.out.step hM.out).c 2 rfl
            have xpz := (H2.out.step hM.out).2.2
            rw [HLIT.out]
            go_simp
            exact hK.out _ _ (NS.next (vs := vs) 6 (by omega) (fun q h => absurd h (by simp)) (x := .int .u8 xv) (by rw [HLIT.out]; simp only [upv, e5, Nat.reduceBEq, cond_true, cond_false]) (by rw [HG.out]; exact j4.out) hB.out (by rw [HG.out]; exact fun _ _ h => h) (by rw [HG.out]; exact ⟨fun h => absurd h (by decide), fun h => absurd h (by decide), fun h => absurd h (by decide), fun h => absurd h (by decide), fun _ _ _ _ _ => E6.out.symm⟩))
          · intro bf ac wv hfb haf hJ K' hK
            obtain ⟨vs, rfl, ja, hB, j4⟩ := hJ
            replace hK := Lib.hid hK
            simp [Region.binds] at haf
            rw [HG.out] at j4
            have e6 := ((j4 6 (by simp [haf])).2.2.2.2 (by decide) (by decide) (by decide) (by decide) (by decide)).trans E6.out
            replace j4 := Lib.hid (And.intro ja j4)
            replace hB := Lib.hid hB
            clear ja haf
            rw [HLIT.out]
            go_simp
            exact hK.out _ _ (NS.next (vs := vs) 7 (by omega) (fun q h => absurd h (by simp)) (x := .int .i64 xv) (by rw [HLIT.out]; simp only [upv, e6, HXV.out, Nat.reduceBEq, cond_true, cond_false]) (by rw [HG.out]; exact j4.out) hB.out (by rw [HG.out]; exact fun _ _ h => h) (by rw [HG.out]; exact ⟨fun h => absurd h (by decide), fun h => absurd h (by decide), fun h => absurd h (by decide), fun h => absurd h (by decide), fun _ _ _ _ _ => E7.out.symm⟩))
          · intro bf ac wv hfb haf hJ K' hK
            obtain ⟨vs, rfl, ja, hB, j4⟩ := hJ
            replace hK := Lib.hid hK
            simp [Region.binds] at haf
            rw [HG.out] at j4
            have e7 := ((j4 7 (by simp [haf])).2.2.2.2 (by decide) (by decide) (by decide) (by decide) (by decide)).trans E7.out
            replace j4 := Lib.hid (And.intro ja j4)
            replace hB := Lib.hid hB
            clear ja haf
            rw [HLIT.out]
            go_simp
            exact hK.out _ _ (NS.next (vs := vs) 8 (by omega) (fun q h => absurd h (by simp)) (x := .int .i64 c) (by rw [HLIT.out]; simp only [upv, e7, HXC.out, Nat.reduceBEq, cond_true, cond_false]) (by rw [HG.out]; exact j4.out) hB.out (by rw [HG.out]; exact fun _ _ h => h) (by rw [HG.out]; exact ⟨fun h => absurd h (by decide), fun h => absurd h (by decide), fun h => absurd h (by decide), fun h => absurd h (by decide), fun _ _ _ _ _ => E8.out.symm⟩))
          · intro bf ac wv hfb haf hJ K' hK
            obtain ⟨vs, rfl, ja, hB, j4⟩ := hJ
            replace hK := Lib.hid hK
            rw [HG.out] at j4
            replace j4 := Lib.hid (And.intro ja j4)
            replace hB := Lib.hid hB
            clear ja haf
            rw [HLIT.out]
            go_simp
            exact hK.out _ _ (NS.next (vs := vs) 9 (by omega) (fun q h => absurd h (by simp)) (x := .pointer (some ⟨w.heap.size, 3, none⟩)) (by rw [HLIT.out]; rfl) (by rw [HG.out]; exact j4.out) hB.out (by rw [HG.out]; exact fun _ _ h => h) (by rw [HG.out]; exact ⟨fun h => absurd h (by decide), fun h => absurd h (by decide), fun h => absurd h (by decide), fun h => absurd h (by decide), fun _ _ _ _ _ => E9.out.symm⟩))
          · intro bf ac wv hfb haf hJ K' hK
            obtain ⟨vs, rfl, ja, hB, j4⟩ := hJ
            replace hK := Lib.hid hK
            simp [Region.binds] at haf
            rw [HG.out] at j4
            have e9 := ((j4 9 (by simp [haf])).2.2.2.2 (by decide) (by decide) (by decide) (by decide) (by decide)).trans E9.out
            have hd : bf 18 = false := by
              cases h : bf 18
              · rfl
              · exact absurd ((ja 18 10 rfl h).symm.trans hfb) (by simp)
            have hM := Lib.hid (hB.1 hd)
            replace j4 := Lib.hid (And.intro ja j4)
            replace hB := Lib.hid hB
            clear ja haf
            have xp3 := (H2.out.step hM.out).c 3 rfl
            have xpz := (H2.out.step hM.out).2.2
            rw [HLIT.out]
            go_simp
            exact hK.out _ _ (NS.next (vs := vs) 10 (by omega) (fun q h => absurd h (by simp)) (x := .int .u8 xl) (by rw [HLIT.out]; simp only [upv, e9, Nat.reduceBEq, cond_true, cond_false]) (by rw [HG.out]; exact j4.out) hB.out (by rw [HG.out]; exact fun _ _ h => h) (by rw [HG.out]; exact ⟨fun h => absurd h (by decide), fun h => absurd h (by decide), fun h => absurd h (by decide), fun h => absurd h (by decide), fun _ _ _ _ _ => E10.out.symm⟩))
          · intro bf ac wv hfb haf hJ K' hK
            obtain ⟨vs, rfl, ja, hB, j4⟩ := hJ
            replace hK := Lib.hid hK
            simp [Region.binds] at haf
            rw [HG.out] at j4
            have e10 := ((j4 10 (by simp [haf])).2.2.2.2 (by decide) (by decide) (by decide) (by decide) (by decide)).trans E10.out
            replace j4 := Lib.hid (And.intro ja j4)
            replace hB := Lib.hid hB
            clear ja haf
            rw [HLIT.out]
            go_simp
            exact hK.out _ _ (NS.next (vs := vs) 11 (by omega) (fun q h => absurd h (by simp)) (x := .int .i64 xl) (by rw [HLIT.out]; simp only [upv, e10, HXL.out, Nat.reduceBEq, cond_true, cond_false]) (by rw [HG.out]; exact j4.out) hB.out (by rw [HG.out]; exact fun _ _ h => h) (by rw [HG.out]; exact ⟨fun h => absurd h (by decide), fun h => absurd h (by decide), fun h => absurd h (by decide), fun h => absurd h (by decide), fun _ _ _ _ _ => E11.out.symm⟩))
          · intro bf ac wv hfb haf hJ K' hK
            obtain ⟨vs, rfl, ja, hB, j4⟩ := hJ
            replace hK := Lib.hid hK
            simp [Region.binds] at haf
            rw [HG.out] at j4
            have e11 := ((j4 11 (by simp [haf])).2.2.2.2 (by decide) (by decide) (by decide) (by decide) (by decide)).trans E11.out
            replace j4 := Lib.hid (And.intro ja j4)
            replace hB := Lib.hid hB
            clear ja haf
            rw [HLIT.out]
            go_simp
            exact hK.out _ _ (NS.next (vs := vs) 12 (by omega) (fun q h => absurd h (by simp)) (x := .int .i64 d) (by rw [HLIT.out]; simp only [upv, e11, HXD.out, Nat.reduceBEq, cond_true, cond_false]) (by rw [HG.out]; exact j4.out) hB.out (by rw [HG.out]; exact fun _ _ h => h) (by rw [HG.out]; exact ⟨fun h => absurd h (by decide), fun h => absurd h (by decide), fun h => absurd h (by decide), fun h => absurd h (by decide), fun _ _ _ _ _ => E12.out.symm⟩))
          · intro bf ac wv hfb haf hJ K' hK
            obtain ⟨vs, rfl, ja, hB, j4⟩ := hJ
            replace hK := Lib.hid hK
            simp [Region.binds] at haf
            rw [HG.out] at j4
            have e3 := ((j4 3 (by simp [haf])).2.2.2.2 (by decide) (by decide) (by decide) (by decide) (by decide)).trans E3.out
            have e4 := ((j4 4 (by simp [haf])).2.2.2.2 (by decide) (by decide) (by decide) (by decide) (by decide)).trans E4.out
            have e8 := ((j4 8 (by simp [haf])).2.2.2.2 (by decide) (by decide) (by decide) (by decide) (by decide)).trans E8.out
            have e12 := ((j4 12 (by simp [haf])).2.2.2.2 (by decide) (by decide) (by decide) (by decide) (by decide)).trans E12.out
            have hd : bf 18 = false := by
              cases h : bf 18
              · rfl
              · exact absurd ((ja 18 13 rfl h).symm.trans hfb) (by simp)
            have hM := Lib.hid (hB.1 hd)
            replace j4 := Lib.hid (And.intro ja j4)
            replace hB := Lib.hid hB
            clear ja haf
            rw [HLIT.out]
            go_simp
            go_at_call 11
            refine (send_w HSN.out HOB.out HN1.out HFI.out HPX.out pa pc _ (H1.out.step hM.out).pp HPL.out).mono ?_
            rintro e w4 ⟨⟨uc, ua, rfl, hp4, hf4⟩, b4⟩
            exact hK.out _ _ (NS.next (vs := vs) 13 (by omega) (fun q h => absurd h (by simp)) (x := (.tuple #[.agg #[.int .i64 (nx + 1), .slice ua P'.length uc], .int .i64 0])) (by rw [HLIT.out]; simp only [upv, e3, e4, e8, e12, Nat.reduceBEq, cond_true, cond_false]) (by rw [HG.out]; exact j4.out) ⟨fun _ => keep2 b4 hM.out, fun e => absurd (e.symm.trans hd) (by simp)⟩ (by rw [HG.out]; exact fun k hbk h => ⟨fun q => (h.1 q).step b4, fun q => (h.2.1 q).step b4, fun q => (h.2.2.1 q).step b4, fun q => (h.2.2.2.1 q).step b4, h.2.2.2.2⟩) (by rw [HG.out]; exact ⟨fun _ => ⟨uc, ua, rfl, fun _ => ⟨hp4, fun g o e => Nat.le_trans hM.out.size (hf4 g o e)⟩⟩, fun h => absurd h (by decide), fun h => absurd h (by decide), fun h => absurd h (by decide), fun h13 => absurd rfl h13⟩))
          · intro bf ac wv hfb haf hJ K' hK
            obtain ⟨vs, rfl, ja, hB, j4⟩ := hJ
            replace hK := Lib.hid hK
            simp [Region.binds] at haf
            rw [HG.out] at j4
            have e13 := (j4 13 (by simp [haf])).1 rfl
            replace j4 := Lib.hid (And.intro ja j4)
            replace hB := Lib.hid hB
            clear ja haf
            obtain ⟨uc, ua, e13, hp⟩ := e13
            rw [HLIT.out]
            go_simp
            exact hK.out _ _ (NS.next (vs := vs) 14 (by omega) (fun q h => absurd h (by simp)) (x := (.tuple #[.agg #[.int .i64 (nx + 1), .slice ua P'.length uc], .int .i64 0])) (by rw [HLIT.out]; simp only [upv, e13, Nat.reduceBEq, cond_true, cond_false]) (by rw [HG.out]; exact j4.out) hB.out (by rw [HG.out]; exact fun _ _ h => h) (by rw [HG.out]; exact ⟨fun h => absurd h (by decide), fun _ => ⟨uc, ua, rfl, hp⟩, fun h => absurd h (by decide), fun h => absurd h (by decide), fun h13 h14 => absurd rfl h14⟩))
          · intro bf ac wv hfb haf hJ K' hK
            obtain ⟨vs, rfl, ja, hB, j4⟩ := hJ
            replace hK := Lib.hid hK
            simp [Region.binds] at haf
            rw [HG.out] at j4
            have e14 := (j4 14 (by simp [haf])).2.1 rfl
            replace j4 := Lib.hid (And.intro ja j4)
            replace hB := Lib.hid hB
            clear ja haf
            obtain ⟨uc, ua, e14, hp⟩ := e14
            rw [HLIT.out]
            go_simp
            exact hK.out _ _ (NS.next (vs := vs) 15 (by omega) (fun q h => absurd h (by simp)) (x := (.agg #[.int .i64 (nx + 1), .slice ua P'.length uc])) (by rw [HLIT.out]; simp only [upv, e14, Nat.reduceBEq, cond_true, cond_false]) (by rw [HG.out]; exact j4.out) hB.out (by rw [HG.out]; exact fun _ _ h => h) (by rw [HG.out]; exact ⟨fun h => absurd h (by decide), fun h => absurd h (by decide), fun _ => ⟨uc, ua, rfl, hp⟩, fun h => absurd h (by decide), fun h13 h14 h15 => absurd rfl h15⟩))
          · intro bf ac wv hfb haf hJ K' hK
            obtain ⟨vs, rfl, ja, hB, j4⟩ := hJ
            replace hK := Lib.hid hK
            simp [Region.binds] at haf
            rw [HG.out] at j4
            have e14 := (j4 14 (by simp [haf])).2.1 rfl
            replace j4 := Lib.hid (And.intro ja j4)
            replace hB := Lib.hid hB
            clear ja haf
            obtain ⟨uc, ua, e14, hp⟩ := e14
            rw [HLIT.out]
            go_simp
            exact hK.out _ _ (NS.next (vs := vs) 16 (by omega) (fun q h => absurd h (by simp)) (x := .int .i64 0) (by rw [HLIT.out]; simp only [upv, e14, Nat.reduceBEq, cond_true, cond_false]) (by rw [HG.out]; exact j4.out) hB.out (by rw [HG.out]; exact fun _ _ h => h) (by rw [HG.out]; exact ⟨fun h => absurd h (by decide), fun h => absurd h (by decide), fun h => absurd h (by decide), fun h => absurd h (by decide), fun _ _ _ _ _ => E16.out.symm⟩))
          · intro bf ac wv hfb haf hJ K' hK
            obtain ⟨vs, rfl, ja, hB, j4⟩ := hJ
            replace hK := Lib.hid hK
            rw [HG.out] at j4
            have hd : bf 18 = false := by
              cases h : bf 18
              · rfl
              · exact absurd ((ja 18 17 rfl h).symm.trans hfb) (by simp)
            have hM := Lib.hid (hB.1 hd)
            replace j4 := Lib.hid (And.intro ja j4)
            replace hB := Lib.hid hB
            clear ja haf
            rw [HLIT.out]
            go_simp
            have b4 := al wv (.cells Z2 24)
            exact hK.out _ _ (NS.next (vs := vs) 17 (by omega) (fun q h => absurd h (by simp)) (x := (.pointer (some ⟨wv.heap.size, 0, none⟩))) (by rw [HLIT.out]; rfl) (by rw [HG.out]; exact j4.out) ⟨fun _ => keep2 b4 hM.out, fun e => absurd (e.symm.trans hd) (by simp)⟩ (by rw [HG.out]; exact fun k hbk h => ⟨fun q => (h.1 q).step b4, fun q => (h.2.1 q).step b4, fun q => (h.2.2.1 q).step b4, fun q => (h.2.2.2.1 q).step b4, h.2.2.2.2⟩) (by rw [HG.out]; exact ⟨fun h => absurd h (by decide), fun h => absurd h (by decide), fun h => absurd h (by decide), fun _ => ⟨wv.heap.size, rfl, hM.out.size, fun _ => BoxN.new wv Z2 24, fun e => absurd (e.symm.trans hd) (by simp)⟩, fun h13 h14 h15 h17 => absurd rfl h17⟩))
          · intro bf ac wv hfb haf hJ K' hK
            obtain ⟨vs, rfl, ja, hB, j4⟩ := hJ
            replace hK := Lib.hid hK
            simp [Region.binds] at haf
            rw [HG.out] at j4
            have e15 := (j4 15 (by simp [haf])).2.2.1 rfl
            have e17 := (j4 17 (by simp [haf])).2.2.2.1 rfl
            rw [hfb] at j4 hB
            try rw [hfb] at e15
            try rw [hfb] at e17
            have HA := Lib.hid (show ∀ q, (fun p q => (p == 18 && q == 3) || (p == 18 && q == 6) || (p == 18 && q == 10) || (p == 18 && q == 13) || (p == 18 && q == 15) || (p == 18 && q == 17)) 18 q = true → bf q = true from fun q hi => by
              obtain rfl | rfl | rfl | rfl | rfl | rfl : q = 3 ∨ q = 6 ∨ q = 10 ∨ q = 13 ∨ q = 15 ∨ q = 17 := by simpa [or_assoc] using hi
              all_goals simp [haf])
            have hM := Lib.hid (hB.1 rfl)
            replace j4 := Lib.hid j4
            have HE := Lib.hid (And.intro ja HA.out)
            clear ja haf hB HA
            obtain ⟨k, e17, hk, hz, -⟩ := e17
            replace hz := hz rfl
            obtain ⟨uc, ua, e15, hp⟩ := e15
            obtain ⟨hp, hf⟩ := hp rfl
            replace hf := Lib.hid hf
            replace hk := Lib.hid hk
            have HZ := Lib.hid hz
            have HZC := Lib.hid (Cs.of_heap hz)
            replace hp := Lib.hid hp
            have x0 := HZC.out.c 0 rfl
            have y0 := HZC.out.f 0 (by simp [Z2])
            have x1 := HZC.out.c 1 rfl
            have y1 := HZC.out.f 1 (by simp [Z2])
            have xz := HZC.out.2.2
            clear hz
            rw [HLIT.out]
            go_simp
            obtain ⟨p1, p2⟩ := put2_ok (nx + 1) HZ.out hp.out hk.out
            exact hK.out _ _ (NS.put (vs := vs) (w' := put2 wv k (nx + 1) (.slice ua P'.length uc)) (by rw [HLIT.out]; simp only [e17, e15]) HE.out ⟨fun e => (by cases e), fun _ => hM.out.trans p1⟩ (fun j hj hb => by
              rw [HG.out]
              have q := j4.out j hb
              exact ⟨fun h => (q.1 h).put _, fun h => (q.2.1 h).put _, fun h => (q.2.2.1 h).put _, fun h => by
                subst h
                exact ⟨k, e17, hk.out, fun e => (by cases e), fun _ hP => ⟨uc, ua, (p2 hP).1, (p2 hP).2, hf.out⟩⟩, q.2.2.2.2⟩) (fun v => by rw [HG.out]; exact ⟨fun h => absurd h (by decide), fun h => absurd h (by decide), fun h => absurd h (by decide), fun h => absurd h (by decide), fun h13 h14 h15 h17 h18 => absurd rfl h18⟩))
          · intro bf ac wv hfb haf hJ K' hK
            obtain ⟨vs, rfl, ja, hB, j4⟩ := hJ
            replace hK := Lib.hid hK
            simp [Region.binds] at haf
            rw [HG.out] at j4
            have e16 := ((j4 16 (by simp [haf])).2.2.2.2 (by decide) (by decide) (by decide) (by decide) (by decide)).trans E16.out
            replace j4 := Lib.hid (And.intro ja j4)
            replace hB := Lib.hid hB
            clear ja haf
            rw [HLIT.out]
            go_simp
            exact hK.out _ _ (NS.next (vs := vs) 19 (by omega) (fun q h => absurd h (by simp)) (x := .int .i64 0) (by rw [HLIT.out]; simp only [upv, e16, Nat.reduceBEq, cond_true, cond_false]) (by rw [HG.out]; exact j4.out) hB.out (by rw [HG.out]; exact fun _ _ h => h) (by rw [HG.out]; exact ⟨fun h => absurd h (by decide), fun h => absurd h (by decide), fun h => absurd h (by decide), fun h => absurd h (by decide), fun _ _ _ _ _ => E19.out.symm⟩))
        · intro bf ac wv hall hJ
          obtain ⟨vs, rfl, -, hB, j4⟩ := hJ
          rw [HG.out] at j4
          rw [hall 18 (by decide)] at hB j4
          have hM := Lib.hid (hB.2 rfl)
          clear hB
          obtain ⟨k, e17, hk, -, hq0⟩ := (j4 17 (hall 17 (by decide))).2.2.2.1 rfl
          obtain ⟨uc, ua, hc, hp, hf⟩ := hq0 (by simp) HPN.out
          have e19 := ((j4 19 (hall 19 (by decide))).2.2.2.2 (by decide) (by decide) (by decide) (by decide) (by decide)).trans E19.out
          clear j4 hall
          rw [HLIT.out]
          dsimp only
          rw [e17, e19]
          clear e17 e19
          go_wp2
          go_meet
          exact ⟨rfl, k, uc, ua, rfl, hk, hc, hp, hf, hM.out⟩
      case rest =>
        obtain ⟨rfl, k, uc, ua, rfl, hk, hc, hp, hf, b5⟩ := hcut
        have HKK := Lib.hid hk
        have HKR := Lib.hid hc
        have HKP := Lib.hid hp
        have HKF := Lib.hid hf
        clear hk hc hp hf
        have HUA := Lib.hid (show nb ua n ∧ nb2 ua aa ∧ nb2 ua da from ⟨nb_fresh HKF.out H1.out.cs.2.2, nb2_fresh HKF.out (row_ltN H1.out.al (Nat.le_refl _)), nb2_fresh HKF.out (row_ltN H1.out.dl (Nat.le_refl _))⟩)
        have HKN := Lib.hid (show k ≠ n from fun q => by have h1 := H1.out.cs.2.2; have h2 := HKK.out; omega)
        have H4 := Lib.hid (H1.out.step b5)
        have H5 := Lib.hid (H2.out.step b5)
        have H6 := Lib.hid (keepB H3.out b5 HLE.out)
        clear H1 H2 H3
        replace HLE := Lib.hid (H4.out.le)
        clear b5
        go_upto_region 8 with fail
        have t1 : P'.length = P.length + 1 := by rw [HPX.out]; simp
        have t2 : ¬ (P'.length = 0) := by omega
        have t3 : ¬ ((P'.length : Int) = 0) := by omega
        have t4 : decide ((P'.length : Int) = 0) = false := decide_eq_false t3
        have t5 : ((P'.length : Int) == 0) = false := beq_eq_false_iff_ne.2 t3
        have t6 := HW1.out
        have t7 : (P' == []) = false := by rw [HPX.out]; simp
        replace t1 := Lib.hid t1
        have xw0 := H4.out.cs.c 0 rfl
        have xwz := H4.out.cs.2.2
        have xk0 := HKR.out.c 0 rfl
        have xk1 := HKR.out.c 1 rfl
        have xkz := HKR.out.2.2
        go_quiet (fail)
        obtain ⟨wd, hwd⟩ : ∃ z, wc.drewN nq = z := ⟨_, rfl⟩
        have b6 : Below wc.heap.size wc wd := by rw [← hwd]; exact below_drewN' _ _ _
        rw [hwd]
        clear hwd t2 t3 t4 t5 t6 t7
        clear xw0 xwz xk0 xk1 xkz
        have H7 := Lib.hid (H4.out.step b6)
        have H8 := Lib.hid (H5.out.step b6)
        have H9 := Lib.hid (keepB H6.out b6 HLE.out)
        have H10 := Lib.hid (HKR.out.step b6)
        have H11 := Lib.hid (HKP.out.step b6)
        clear H4 H5 H6 HKR HKP
        replace HLE := Lib.hid (H7.out.le)
        clear b6
        go_upto_region 10 with fail
        have xw0 := H7.out.cs.c 0 rfl
        have xw1 := H7.out.cs.c 1 rfl
        have yw0 := H7.out.cs.f 0 (by simp)
        have yw1 := H7.out.cs.f 1 (by simp)
        have xwz := H7.out.cs.2.2
        have xk0 := H10.out.c 0 rfl
        have xk1 := H10.out.c 1 rfl
        have xkz := H10.out.2.2
        have HS := Lib.hid (H7.out.sets (nx' := nx + 1) H11.out (fun _ => HUA.out.1) (fun _ => HUA.out.2.1) (fun _ => HUA.out.2.2))
        have HSB := Lib.hid (show Below base w ((wd.setCell ⟨n, 0, none⟩ (.int .i64 (nx + 1))).setCell ⟨n, 1, none⟩ (.slice ua P'.length uc)) from (H9.out.setCell (p := ⟨n, 0, none⟩) HBN.out _).setCell (p := ⟨n, 1, none⟩) HBN.out _)
        have HSK := Lib.hid (show Cs ((wd.setCell ⟨n, 0, none⟩ (.int .i64 (nx + 1))).setCell ⟨n, 1, none⟩ (.slice ua P'.length uc)) k #[.int .i64 (nx + 1), .slice ua P'.length uc] from cs_oth (cs_oth H10.out HKN.out) HKN.out)
        have HSP := Lib.hid HS.out.pp
        go_upto_region 11 with fail
        obtain ⟨wf, hwf⟩ : ∃ z, ((wd.setCell ⟨n, 0, none⟩ (.int .i64 (nx + 1))).setCell ⟨n, 1, none⟩ (.slice ua P'.length uc)) = z := ⟨_, rfl⟩
        rw [hwf] at HS HSB HSK HSP ⊢
        clear hwf xw0 xw1 yw0 yw1 xwz xk0 xk1 xkz H7 H8 H9 H10 H11
        replace HLE := Lib.hid HS.out.le
        obtain ⟨xa, xc, hv1, -, -, hx⟩ := HSP.out
        obtain ⟨rfl, rfl⟩ : ua = xa ∧ uc = xc := by simpa using hv1
        obtain ⟨b1, p1, rfl, hx1⟩ := hx HPN.out
        obtain ⟨y0, y1, y2, y3⟩ := hx1 P.length ⟨nx, b, c, d⟩ (by rw [HPX.out]; simp)
        have HY := Lib.hid (And.intro y0 (And.intro y1 (And.intro y2 y3)))
        clear hx hx1 hv1 y0 y1 y2 y3
        have HLL := Lib.hid (show (P.length : Int) < (P'.length : Int) by have h1 := t1.out; omega)
        have HWP := Lib.hid (show IntKind.i64.wrap ((P'.length : Int) - 1) = (P.length : Int) by have h1 := HPL.out; rw [HPX.out, IntWalk.i64_in _ (by simp; omega)]; simp)
        clear t1
        obtain ⟨lit, hlit⟩ : ∃ lit : (Nat → Value) → Act, lit = fun vs => { tmps := List.toArray (Value.pointer (some { block := n, off := 0 }) :: Value.agg #[Value.int IntKind.u8 xd, Value.int IntKind.u8 xw, Value.int IntKind.u8 xv, Value.int IntKind.u8 xl, Value.int IntKind.u8 xf] :: Value.bool sm :: undef :: Value.pointer (some { block := w.heap.size, off := 0 }) :: undef :: Value.bool false :: Value.int IntKind.i64 b :: Value.pointer (some { block := k, off := 0 }) :: Value.int IntKind.i64 0 :: u10 :: u11 :: u12 :: u13 :: u14 :: u15 :: u16 :: u17 :: u18 :: u19 :: u20 :: Value.bool true :: u22 :: u23 :: u24 :: u25 :: u26 :: u27 :: u28 :: u29 :: u30 :: u31 :: u32 :: u33 :: u34 :: u35 :: u36 :: u37 :: u38 :: u39 :: u40 :: u41 :: u42 :: u43 :: Value.int IntKind.i64 0 :: Value.bool false :: undef :: undef :: undef :: undef :: undef :: undef :: undef :: undef :: undef :: undef :: undef :: undef :: undef :: undef :: undef :: undef :: undef :: undef :: undef :: undef :: undef :: undef :: undef :: undef :: undef :: undef :: undef :: undef :: Value.pointer (some { block := k, off := 1 }) :: Value.slice (some (⟨b1, p1, none⟩ : Addr)) P'.length uc :: Value.int IntKind.i64 (P'.length : Int) :: Value.bool false :: Value.bool false :: Value.pointer (some { block := k, off := 0 }) :: Value.int IntKind.i64 (nx + 1) :: Value.pointer (some { block := n, off := 0 }) :: Value.pointer (some { block := n, off := 0 }) :: Value.pointer (some { block := n, off := 0 }) :: Value.pointer (some { block := n, off := 0 }) :: Value.int IntKind.i64 nx :: Value.int IntKind.i64 (wrap64 (nx + 1)) :: Value.bool false :: Value.bool false :: Value.pointer (some { block := n, off := 0 }) :: Value.agg #[Value.int IntKind.i64 (nx + 1), Value.slice (some (⟨b1, p1, none⟩ : Addr)) P'.length uc] :: Value.pointer (some { block := n, off := 0 }) :: Value.pointer (some { block := n, off := 0 }) :: vs 0 :: vs 1 :: vs 2 :: vs 3 :: vs 4 :: vs 5 :: vs 6 :: vs 7 :: vs 8 :: vs 9 :: vs 10 :: vs 11 :: vs 12 :: vs 13 :: vs 14 :: vs 15 :: vs 16 :: undef :: undef :: undef :: undef :: undef :: undef :: undef :: undef :: undef :: undef :: undef :: undef :: undef :: undef :: undef :: undef :: undef :: undef :: undef :: undef :: undef :: []), defers := [] } := ⟨_, rfl⟩
        have HLIT := Lib.hid hlit
        clear hlit
        obtain ⟨val, hval⟩ : ∃ val : List Value, val = [.pointer (some ⟨n, 0, none⟩), .pointer (some ⟨n, 0, none⟩), .pointer (some ⟨n, 0, none⟩), .pointer (some ⟨n, 7, none⟩), .slice aa A.length ac, .pointer (some ⟨k, 1, none⟩), (.slice (some ⟨b1, p1, none⟩) P'.length uc), .pointer (some ⟨k, 1, none⟩), (.slice (some ⟨b1, p1, none⟩) P'.length uc), .int .i64 P'.length, .int .i64 P.length, .pointer (some ⟨b1, p1 + P.length * 4, none⟩), .agg #[.int .i64 nx, .int .i64 b, .int .i64 c, .int .i64 d], undef, undef, .pointer (some ⟨n, 0, none⟩), .pointer (some ⟨n, 7, none⟩), undef] := ⟨_, rfl⟩
        have E0 := Lib.hid (show val.getD 0 undef = .pointer (some ⟨n, 0, none⟩) by rw [hval]; rfl)
        have E1 := Lib.hid (show val.getD 1 undef = .pointer (some ⟨n, 0, none⟩) by rw [hval]; rfl)
        have E2 := Lib.hid (show val.getD 2 undef = .pointer (some ⟨n, 0, none⟩) by rw [hval]; rfl)
        have E3 := Lib.hid (show val.getD 3 undef = .pointer (some ⟨n, 7, none⟩) by rw [hval]; rfl)
        have E4 := Lib.hid (show val.getD 4 undef = .slice aa A.length ac by rw [hval]; rfl)
        have E5 := Lib.hid (show val.getD 5 undef = .pointer (some ⟨k, 1, none⟩) by rw [hval]; rfl)
        have E6 := Lib.hid (show val.getD 6 undef = (.slice (some ⟨b1, p1, none⟩) P'.length uc) by rw [hval]; rfl)
        have E7 := Lib.hid (show val.getD 7 undef = .pointer (some ⟨k, 1, none⟩) by rw [hval]; rfl)
        have E8 := Lib.hid (show val.getD 8 undef = (.slice (some ⟨b1, p1, none⟩) P'.length uc) by rw [hval]; rfl)
        have E9 := Lib.hid (show val.getD 9 undef = .int .i64 P'.length by rw [hval]; rfl)
        have E10 := Lib.hid (show val.getD 10 undef = .int .i64 P.length by rw [hval]; rfl)
        have E11 := Lib.hid (show val.getD 11 undef = .pointer (some ⟨b1, p1 + P.length * 4, none⟩) by rw [hval]; rfl)
        have E12 := Lib.hid (show val.getD 12 undef = .agg #[.int .i64 nx, .int .i64 b, .int .i64 c, .int .i64 d] by rw [hval]; rfl)
        have E15 := Lib.hid (show val.getD 15 undef = .pointer (some ⟨n, 0, none⟩) by rw [hval]; rfl)
        have E16 := Lib.hid (show val.getD 16 undef = .pointer (some ⟨n, 7, none⟩) by rw [hval]; rfl)
        clear hval
        obtain ⟨G, hG0⟩ : ∃ G : Bool → Nat → Value → World → Prop, G = (fun bq iq vq ww => (iq = 13 → Qbx ⟨nx, b, c, d⟩ bq vq ww) ∧ (iq = 14 → ∃ (aa9 : Option Addr) (ac9 : Nat), vq = .slice aa9 A'.length ac9 ∧ (bq = true → (∃ w0, WdA base n (some (⟨b1, p1, none⟩ : Addr)) ta va aa da uc tc vc ac dc (nx + 1) P' t L f V dn A D w0 ∧ w0.grownBy ww (Value.slice aa A.length ac).ownBlock ∧ ww.ownsRow base 32 4 (.slice aa9 A'.length ac9) A'.length (ocs A') ∧ Apd w0 (.slice aa A.length ac) (.slice aa9 A'.length ac9)) ∨ WdA base n (some (⟨b1, p1, none⟩ : Addr)) ta va aa9 da uc tc vc ac9 dc (nx + 1) P' t L f V dn A' D ww)) ∧ (iq = 17 → bq = true → ∃ (aa9 : Option Addr) (ac9 : Nat), WdA base n (some (⟨b1, p1, none⟩ : Addr)) ta va aa9 da uc tc vc ac9 dc (nx + 1) P' t L f V dn A' D ww) ∧ (iq ≠ 13 → iq ≠ 14 → iq ≠ 17 → vq = val.getD iq undef)) := ⟨_, rfl⟩
        have HG := Lib.hid hG0
        clear hG0
        refine region_inv (NS lit 14 (fun p q => (p == 14 && q == 4) || (p == 14 && q == 13) || (p == 9 && q == 8) || (p == 10 && q == 9) || (p == 11 && q == 6) || (p == 11 && q == 10) || (p == 12 && q == 11) || (p == 13 && q == 12) || (p == 17 && q == 14)) G fun bq wv => (bq = false → Below wf.heap.size wf wv) ∧ (bq = true → Below base wf wv)) (by kernel_rfl) (by decide +kernel) ?_ ?_ ?_
        · exact NS.start (fun i => ([undef, undef, undef, undef, undef, undef, undef, undef, undef, undef, undef, undef, undef, undef, undef, undef, undef, undef] : List Value).getD i undef) (by rw [HLIT.out]; rfl) ⟨fun _ => below_drew _ _, fun h => (by cases h)⟩
        · refine ⟨?_, ?_, ?_, ?_, ?_, ?_, ?_, ?_, ?_, ?_, ?_, ?_, ?_, ?_, ?_, ?_, ?_, ?_, trivial⟩
          · intro bf ac wv hfb haf hJ K' hK
            obtain ⟨vs, rfl, ja, hB, j4⟩ := hJ
            replace hK := Lib.hid hK
            rw [HG.out] at j4
            replace j4 := Lib.hid (And.intro ja j4)
            replace hB := Lib.hid hB
            clear ja haf
            rw [HLIT.out]
            go_simp
            exact hK.out _ _ (NS.next (vs := vs) 0 (by omega) (fun q h => absurd h (by simp)) (x := .pointer (some ⟨n, 0, none⟩)) (by rw [HLIT.out]; rfl) (by rw [HG.out]; exact j4.out) hB.out (by rw [HG.out]; exact fun _ _ h => h) (by rw [HG.out]; exact ⟨fun h => absurd h (by decide), fun h => absurd h (by decide), fun h => absurd h (by decide), fun _ _ _ => E0.out.symm⟩))
          · intro bf ac wv hfb haf hJ K' hK
            obtain ⟨vs, rfl, ja, hB, j4⟩ := hJ
            replace hK := Lib.hid hK
            rw [HG.out] at j4
            replace j4 := Lib.hid (And.intro ja j4)
            replace hB := Lib.hid hB
            clear ja haf
            rw [HLIT.out]
            go_simp
            exact hK.out _ _ (NS.next (vs := vs) 1 (by omega) (fun q h => absurd h (by simp)) (x := .pointer (some ⟨n, 0, none⟩)) (by rw [HLIT.out]; rfl) (by rw [HG.out]; exact j4.out) hB.out (by rw [HG.out]; exact fun _ _ h => h) (by rw [HG.out]; exact ⟨fun h => absurd h (by decide), fun h => absurd h (by decide), fun h => absurd h (by decide), fun _ _ _ => E1.out.symm⟩))
          · intro bf ac wv hfb haf hJ K' hK
            obtain ⟨vs, rfl, ja, hB, j4⟩ := hJ
            replace hK := Lib.hid hK
            simp [Region.binds] at haf
            rw [HG.out] at j4
            have e1 := ((j4 1 (by simp [haf])).2.2.2 (by decide) (by decide) (by decide)).trans E1.out
            replace j4 := Lib.hid (And.intro ja j4)
            replace hB := Lib.hid hB
            clear ja haf
            rw [HLIT.out]
            go_simp
            exact hK.out _ _ (NS.next (vs := vs) 2 (by omega) (fun q h => absurd h (by simp)) (x := .pointer (some ⟨n, 0, none⟩)) (by rw [HLIT.out]; simp only [upv, e1, Nat.reduceBEq, cond_true, cond_false]) (by rw [HG.out]; exact j4.out) hB.out (by rw [HG.out]; exact fun _ _ h => h) (by rw [HG.out]; exact ⟨fun h => absurd h (by decide), fun h => absurd h (by decide), fun h => absurd h (by decide), fun _ _ _ => E2.out.symm⟩))
          · intro bf ac wv hfb haf hJ K' hK
            obtain ⟨vs, rfl, ja, hB, j4⟩ := hJ
            replace hK := Lib.hid hK
            simp [Region.binds] at haf
            rw [HG.out] at j4
            have e2 := ((j4 2 (by simp [haf])).2.2.2 (by decide) (by decide) (by decide)).trans E2.out
            replace j4 := Lib.hid (And.intro ja j4)
            replace hB := Lib.hid hB
            clear ja haf
            rw [HLIT.out]
            go_simp
            exact hK.out _ _ (NS.next (vs := vs) 3 (by omega) (fun q h => absurd h (by simp)) (x := .pointer (some ⟨n, 7, none⟩)) (by rw [HLIT.out]; simp only [upv, e2, Nat.reduceBEq, cond_true, cond_false]) (by rw [HG.out]; exact j4.out) hB.out (by rw [HG.out]; exact fun _ _ h => h) (by rw [HG.out]; exact ⟨fun h => absurd h (by decide), fun h => absurd h (by decide), fun h => absurd h (by decide), fun _ _ _ => E3.out.symm⟩))
          · intro bf ac wv hfb haf hJ K' hK
            obtain ⟨vs, rfl, ja, hB, j4⟩ := hJ
            replace hK := Lib.hid hK
            simp [Region.binds] at haf
            rw [HG.out] at j4
            have e3 := ((j4 3 (by simp [haf])).2.2.2 (by decide) (by decide) (by decide)).trans E3.out
            have hd : bf 14 = false := by
              cases h : bf 14
              · rfl
              · exact absurd ((ja 14 4 rfl h).symm.trans hfb) (by simp)
            have hM := Lib.hid (hB.1 hd)
            replace j4 := Lib.hid (And.intro ja j4)
            replace hB := Lib.hid hB
            clear ja haf
            have xx7 := (HS.out.step hM.out).cs.c 7 rfl
            have xxz := (HS.out.step hM.out).cs.2.2
            rw [HLIT.out]
            go_simp
            exact hK.out _ _ (NS.next (vs := vs) 4 (by omega) (fun q h => absurd h (by simp)) (x := .slice aa A.length ac) (by rw [HLIT.out]; simp only [upv, e3, Nat.reduceBEq, cond_true, cond_false]) (by rw [HG.out]; exact j4.out) hB.out (by rw [HG.out]; exact fun _ _ h => h) (by rw [HG.out]; exact ⟨fun h => absurd h (by decide), fun h => absurd h (by decide), fun h => absurd h (by decide), fun _ _ _ => E4.out.symm⟩))
          · intro bf ac wv hfb haf hJ K' hK
            obtain ⟨vs, rfl, ja, hB, j4⟩ := hJ
            replace hK := Lib.hid hK
            rw [HG.out] at j4
            replace j4 := Lib.hid (And.intro ja j4)
            replace hB := Lib.hid hB
            clear ja haf
            rw [HLIT.out]
            go_simp
            exact hK.out _ _ (NS.next (vs := vs) 5 (by omega) (fun q h => absurd h (by simp)) (x := .pointer (some ⟨k, 1, none⟩)) (by rw [HLIT.out]; rfl) (by rw [HG.out]; exact j4.out) hB.out (by rw [HG.out]; exact fun _ _ h => h) (by rw [HG.out]; exact ⟨fun h => absurd h (by decide), fun h => absurd h (by decide), fun h => absurd h (by decide), fun _ _ _ => E5.out.symm⟩))
          · intro bf ac wv hfb haf hJ K' hK
            obtain ⟨vs, rfl, ja, hB, j4⟩ := hJ
            replace hK := Lib.hid hK
            simp [Region.binds] at haf
            rw [HG.out] at j4
            have e5 := ((j4 5 (by simp [haf])).2.2.2 (by decide) (by decide) (by decide)).trans E5.out
            have hd : bf 14 = false := by
              cases h : bf 14
              · rfl
              · exact absurd ((ja 11 6 rfl (ja 12 11 rfl (ja 13 12 rfl (ja 14 13 rfl h)))).symm.trans hfb) (by simp)
            have hM := Lib.hid (hB.1 hd)
            replace j4 := Lib.hid (And.intro ja j4)
            replace hB := Lib.hid hB
            clear ja haf
            have xk1 := (HSK.out.step hM.out).c 1 rfl
            have xkz := (HSK.out.step hM.out).2.2
            rw [HLIT.out]
            go_simp
            exact hK.out _ _ (NS.next (vs := vs) 6 (by omega) (fun q h => absurd h (by simp)) (x := (.slice (some ⟨b1, p1, none⟩) P'.length uc)) (by rw [HLIT.out]; simp only [upv, e5, Nat.reduceBEq, cond_true, cond_false]) (by rw [HG.out]; exact j4.out) hB.out (by rw [HG.out]; exact fun _ _ h => h) (by rw [HG.out]; exact ⟨fun h => absurd h (by decide), fun h => absurd h (by decide), fun h => absurd h (by decide), fun _ _ _ => E6.out.symm⟩))
          · intro bf ac wv hfb haf hJ K' hK
            obtain ⟨vs, rfl, ja, hB, j4⟩ := hJ
            replace hK := Lib.hid hK
            rw [HG.out] at j4
            replace j4 := Lib.hid (And.intro ja j4)
            replace hB := Lib.hid hB
            clear ja haf
            rw [HLIT.out]
            go_simp
            exact hK.out _ _ (NS.next (vs := vs) 7 (by omega) (fun q h => absurd h (by simp)) (x := .pointer (some ⟨k, 1, none⟩)) (by rw [HLIT.out]; rfl) (by rw [HG.out]; exact j4.out) hB.out (by rw [HG.out]; exact fun _ _ h => h) (by rw [HG.out]; exact ⟨fun h => absurd h (by decide), fun h => absurd h (by decide), fun h => absurd h (by decide), fun _ _ _ => E7.out.symm⟩))
          · intro bf ac wv hfb haf hJ K' hK
            obtain ⟨vs, rfl, ja, hB, j4⟩ := hJ
            replace hK := Lib.hid hK
            simp [Region.binds] at haf
            rw [HG.out] at j4
            have e7 := ((j4 7 (by simp [haf])).2.2.2 (by decide) (by decide) (by decide)).trans E7.out
            have hd : bf 14 = false := by
              cases h : bf 14
              · rfl
              · exact absurd ((ja 9 8 rfl (ja 10 9 rfl (ja 11 10 rfl (ja 12 11 rfl (ja 13 12 rfl (ja 14 13 rfl h)))))).symm.trans hfb) (by simp)
            have hM := Lib.hid (hB.1 hd)
            replace j4 := Lib.hid (And.intro ja j4)
            replace hB := Lib.hid hB
            clear ja haf
            have xk1 := (HSK.out.step hM.out).c 1 rfl
            have xkz := (HSK.out.step hM.out).2.2
            rw [HLIT.out]
            go_simp
            exact hK.out _ _ (NS.next (vs := vs) 8 (by omega) (fun q h => absurd h (by simp)) (x := (.slice (some ⟨b1, p1, none⟩) P'.length uc)) (by rw [HLIT.out]; simp only [upv, e7, Nat.reduceBEq, cond_true, cond_false]) (by rw [HG.out]; exact j4.out) hB.out (by rw [HG.out]; exact fun _ _ h => h) (by rw [HG.out]; exact ⟨fun h => absurd h (by decide), fun h => absurd h (by decide), fun h => absurd h (by decide), fun _ _ _ => E8.out.symm⟩))
          · intro bf ac wv hfb haf hJ K' hK
            obtain ⟨vs, rfl, ja, hB, j4⟩ := hJ
            replace hK := Lib.hid hK
            simp [Region.binds] at haf
            rw [HG.out] at j4
            have e8 := ((j4 8 (by simp [haf])).2.2.2 (by decide) (by decide) (by decide)).trans E8.out
            have HA := Lib.hid (show ∀ q, (fun p q => (p == 14 && q == 4) || (p == 14 && q == 13) || (p == 9 && q == 8) || (p == 10 && q == 9) || (p == 11 && q == 6) || (p == 11 && q == 10) || (p == 12 && q == 11) || (p == 13 && q == 12) || (p == 17 && q == 14)) 9 q = true → bf q = true from fun q hi => by
              obtain rfl : q = 8 := by simpa [or_assoc] using hi
              all_goals simp [haf])
            replace j4 := Lib.hid (And.intro ja j4)
            replace hB := Lib.hid hB
            clear ja haf
            rw [HLIT.out]
            go_simp
            exact hK.out _ _ (NS.next (vs := vs) 9 (by omega) (HA.out) (x := .int .i64 P'.length) (by rw [HLIT.out]; simp only [upv, e8, Nat.reduceBEq, cond_true, cond_false]) (by rw [HG.out]; exact j4.out) hB.out (by rw [HG.out]; exact fun _ _ h => h) (by rw [HG.out]; exact ⟨fun h => absurd h (by decide), fun h => absurd h (by decide), fun h => absurd h (by decide), fun _ _ _ => E9.out.symm⟩))
          · intro bf ac wv hfb haf hJ K' hK
            obtain ⟨vs, rfl, ja, hB, j4⟩ := hJ
            replace hK := Lib.hid hK
            simp [Region.binds] at haf
            rw [HG.out] at j4
            have e9 := ((j4 9 (by simp [haf])).2.2.2 (by decide) (by decide) (by decide)).trans E9.out
            have HA := Lib.hid (show ∀ q, (fun p q => (p == 14 && q == 4) || (p == 14 && q == 13) || (p == 9 && q == 8) || (p == 10 && q == 9) || (p == 11 && q == 6) || (p == 11 && q == 10) || (p == 12 && q == 11) || (p == 13 && q == 12) || (p == 17 && q == 14)) 10 q = true → bf q = true from fun q hi => by
              obtain rfl : q = 9 := by simpa [or_assoc] using hi
              all_goals simp [haf])
            replace j4 := Lib.hid (And.intro ja j4)
            replace hB := Lib.hid hB
            clear ja haf
            rw [HLIT.out]
            go_simp
            exact hK.out _ _ (NS.next (vs := vs) 10 (by omega) (HA.out) (x := .int .i64 P.length) (by rw [HLIT.out]; simp only [upv, e9, HWP.out, Nat.reduceBEq, cond_true, cond_false]) (by rw [HG.out]; exact j4.out) hB.out (by rw [HG.out]; exact fun _ _ h => h) (by rw [HG.out]; exact ⟨fun h => absurd h (by decide), fun h => absurd h (by decide), fun h => absurd h (by decide), fun _ _ _ => E10.out.symm⟩))
          · intro bf ac wv hfb haf hJ K' hK
            obtain ⟨vs, rfl, ja, hB, j4⟩ := hJ
            replace hK := Lib.hid hK
            simp [Region.binds] at haf
            rw [HG.out] at j4
            have e6 := ((j4 6 (by simp [haf])).2.2.2 (by decide) (by decide) (by decide)).trans E6.out
            have e10 := ((j4 10 (by simp [haf])).2.2.2 (by decide) (by decide) (by decide)).trans E10.out
            have HA := Lib.hid (show ∀ q, (fun p q => (p == 14 && q == 4) || (p == 14 && q == 13) || (p == 9 && q == 8) || (p == 10 && q == 9) || (p == 11 && q == 6) || (p == 11 && q == 10) || (p == 12 && q == 11) || (p == 13 && q == 12) || (p == 17 && q == 14)) 11 q = true → bf q = true from fun q hi => by
              obtain rfl | rfl : q = 6 ∨ q = 10 := by simpa [or_assoc] using hi
              all_goals simp [haf])
            replace j4 := Lib.hid (And.intro ja j4)
            replace hB := Lib.hid hB
            clear ja haf
            have tm1 := HLL.out
            rw [HLIT.out]
            go_simp
            exact hK.out _ _ (NS.next (vs := vs) 11 (by omega) (HA.out) (x := .pointer (some ⟨b1, p1 + P.length * 4, none⟩)) (by rw [HLIT.out]; simp only [upv, e6, e10, Nat.reduceBEq, cond_true, cond_false]) (by rw [HG.out]; exact j4.out) hB.out (by rw [HG.out]; exact fun _ _ h => h) (by rw [HG.out]; exact ⟨fun h => absurd h (by decide), fun h => absurd h (by decide), fun h => absurd h (by decide), fun _ _ _ => E11.out.symm⟩))
          · intro bf ac wv hfb haf hJ K' hK
            obtain ⟨vs, rfl, ja, hB, j4⟩ := hJ
            replace hK := Lib.hid hK
            simp [Region.binds] at haf
            rw [HG.out] at j4
            have e11 := ((j4 11 (by simp [haf])).2.2.2 (by decide) (by decide) (by decide)).trans E11.out
            have hd : bf 14 = false := by
              cases h : bf 14
              · rfl
              · exact absurd ((ja 13 12 rfl (ja 14 13 rfl h)).symm.trans hfb) (by simp)
            have hM := Lib.hid (hB.1 hd)
            have HA := Lib.hid (show ∀ q, (fun p q => (p == 14 && q == 4) || (p == 14 && q == 13) || (p == 9 && q == 8) || (p == 10 && q == 9) || (p == 11 && q == 6) || (p == 11 && q == 10) || (p == 12 && q == 11) || (p == 13 && q == 12) || (p == 17 && q == 14)) 12 q = true → bf q = true from fun q hi => by
              obtain rfl : q = 11 := by simpa [or_assoc] using hi
              all_goals simp [haf])
            replace j4 := Lib.hid (And.intro ja j4)
            replace hB := Lib.hid hB
            clear ja haf
            obtain ⟨q0, q1, q2, q3⟩ := HY.out
            replace q0 := keep1 hM.out q0
            replace q1 := keep1 hM.out q1
            replace q2 := keep1 hM.out q2
            replace q3 := keep1 hM.out q3
            have qz := World.block_lt_of_cell? _ _ q0
            have qz : b1 < wv.heap.size := qz
            rw [HLIT.out]
            go_simp
            exact hK.out _ _ (NS.next (vs := vs) 12 (by omega) (HA.out) (x := .agg #[.int .i64 nx, .int .i64 b, .int .i64 c, .int .i64 d]) (by rw [HLIT.out]; simp only [upv, e11, Nat.reduceBEq, cond_true, cond_false]) (by rw [HG.out]; exact j4.out) hB.out (by rw [HG.out]; exact fun _ _ h => h) (by rw [HG.out]; exact ⟨fun h => absurd h (by decide), fun h => absurd h (by decide), fun h => absurd h (by decide), fun _ _ _ => E12.out.symm⟩))
          · intro bf ac wv hfb haf hJ K' hK
            obtain ⟨vs, rfl, ja, hB, j4⟩ := hJ
            replace hK := Lib.hid hK
            simp [Region.binds] at haf
            rw [HG.out] at j4
            have e12 := ((j4 12 (by simp [haf])).2.2.2 (by decide) (by decide) (by decide)).trans E12.out
            have hd : bf 14 = false := by
              cases h : bf 14
              · rfl
              · exact absurd ((ja 14 13 rfl h).symm.trans hfb) (by simp)
            have hM := Lib.hid (hB.1 hd)
            have HA := Lib.hid (show ∀ q, (fun p q => (p == 14 && q == 4) || (p == 14 && q == 13) || (p == 9 && q == 8) || (p == 10 && q == 9) || (p == 11 && q == 6) || (p == 11 && q == 10) || (p == 12 && q == 11) || (p == 13 && q == 12) || (p == 17 && q == 14)) 13 q = true → bf q = true from fun q hi => by
              obtain rfl : q = 12 := by simpa [or_assoc] using hi
              all_goals simp [haf])
            replace j4 := Lib.hid (And.intro ja j4)
            replace hB := Lib.hid hB
            clear ja haf
            rw [HLIT.out]
            go_simp
            have b4 := al wv (.cells #[.int .i64 nx, .int .i64 b, .int .i64 c, .int .i64 d] 32)
            exact hK.out _ _ (NS.next (vs := vs) 13 (by omega) (HA.out) (x := (.slice (some ⟨wv.heap.size, 0, none⟩) 1 1)) (by rw [HLIT.out]; simp only [upv, e12, Nat.reduceBEq, cond_true, cond_false]) (by rw [HG.out]; exact j4.out) ⟨fun _ => keep2 b4 hM.out, fun e => absurd (e.symm.trans hd) (by simp)⟩ (by rw [HG.out]; exact fun k hbk h => ⟨fun q => (h.1 q).step b4, fun q => (by obtain ⟨x8, x9, e8, -⟩ := (h.2.1 q); exact ⟨x8, x9, e8, fun e => absurd (e.symm.trans hd) (by simp)⟩), fun q => (fun e => absurd (e.symm.trans hd) (by simp)), h.2.2.2⟩) (by rw [HG.out]; exact ⟨fun _ => ⟨wv.heap.size, rfl, fun _ => BoxN.new wv #[.int .i64 nx, .int .i64 b, .int .i64 c, .int .i64 d] 32⟩, fun h => absurd h (by decide), fun h => absurd h (by decide), fun h13 => absurd rfl h13⟩))
          · intro bf ac wv hfb haf hJ K' hK
            obtain ⟨vs, rfl, ja, hB, j4⟩ := hJ
            replace hK := Lib.hid hK
            simp [Region.binds] at haf
            rw [HG.out] at j4
            have e4 := ((j4 4 (by simp [haf])).2.2.2 (by decide) (by decide) (by decide)).trans E4.out
            have e13 := (j4 13 (by simp [haf])).1 rfl
            rw [hfb] at j4 hB
            try rw [hfb] at e13
            have HA := Lib.hid (show ∀ q, (fun p q => (p == 14 && q == 4) || (p == 14 && q == 13) || (p == 9 && q == 8) || (p == 10 && q == 9) || (p == 11 && q == 6) || (p == 11 && q == 10) || (p == 12 && q == 11) || (p == 13 && q == 12) || (p == 17 && q == 14)) 14 q = true → bf q = true from fun q hi => by
              obtain rfl | rfl : q = 4 ∨ q = 13 := by simpa [or_assoc] using hi
              all_goals simp [haf])
            have hz17 : bf 17 = false := by
              cases h : bf 17
              · rfl
              · exact absurd ((ja 17 14 rfl h).symm.trans hfb) (by simp)
            have hM := Lib.hid (hB.1 rfl)
            replace j4 := Lib.hid j4
            have HE := Lib.hid (And.intro ja HA.out)
            clear ja haf hB HA
            obtain ⟨g9, e13, hbx⟩ := e13
            replace hbx := hbx rfl
            have hWv := HS.out.step hM.out
            obtain ⟨aa9, ac9, w8, hr8, hg8, ho8, ha8⟩ := app_row (x := ⟨nx, b, c, d⟩) hWv.al hbx HAL.out HAX.out hWv.le
            rw [HLIT.out]
            refine step_app rfl _ _ 22 rfl _ _ _ e4 e13 hr8 ?_
            refine hK.out _ _ (NS.piv (vs := vs) (x := .slice aa9 A'.length ac9) (by rw [HLIT.out]; rfl) HE.out ⟨fun e => (by cases e), fun _ => ((hM.out).mono HLE.out).grown hg8 hWv.le (fun kk ek => row_own hWv.al ek)⟩ (fun j hj hb => ?_) (by rw [HG.out]; exact ⟨fun h => absurd h (by decide), fun _ => ⟨aa9, ac9, rfl, fun _ => .inl ⟨wv, hWv, hg8, ho8, ha8⟩⟩, fun h => absurd h (by decide), fun h13 => fun h14 => absurd rfl h14⟩))
            rw [HG.out]
            have q := j4.out j hb
            exact ⟨fun h => (q.1 h).put _, fun h => absurd h hj, fun h => (by rw [h, hz17] at hb; cases hb), q.2.2.2⟩
          · intro bf ac wv hfb haf hJ K' hK
            obtain ⟨vs, rfl, ja, hB, j4⟩ := hJ
            replace hK := Lib.hid hK
            simp [Region.binds] at haf
            rw [HG.out] at j4
            have e0 := ((j4 0 (by simp [haf])).2.2.2 (by decide) (by decide) (by decide)).trans E0.out
            replace j4 := Lib.hid (And.intro ja j4)
            replace hB := Lib.hid hB
            clear ja haf
            rw [HLIT.out]
            go_simp
            exact hK.out _ _ (NS.next (vs := vs) 15 (by omega) (fun q h => absurd h (by simp)) (x := .pointer (some ⟨n, 0, none⟩)) (by rw [HLIT.out]; simp only [upv, e0, Nat.reduceBEq, cond_true, cond_false]) (by rw [HG.out]; exact j4.out) hB.out (by rw [HG.out]; exact fun _ _ h => h) (by rw [HG.out]; exact ⟨fun h => absurd h (by decide), fun h => absurd h (by decide), fun h => absurd h (by decide), fun _ _ _ => E15.out.symm⟩))
          · intro bf ac wv hfb haf hJ K' hK
            obtain ⟨vs, rfl, ja, hB, j4⟩ := hJ
            replace hK := Lib.hid hK
            simp [Region.binds] at haf
            rw [HG.out] at j4
            have e15 := ((j4 15 (by simp [haf])).2.2.2 (by decide) (by decide) (by decide)).trans E15.out
            replace j4 := Lib.hid (And.intro ja j4)
            replace hB := Lib.hid hB
            clear ja haf
            rw [HLIT.out]
            go_simp
            exact hK.out _ _ (NS.next (vs := vs) 16 (by omega) (fun q h => absurd h (by simp)) (x := .pointer (some ⟨n, 7, none⟩)) (by rw [HLIT.out]; simp only [upv, e15, Nat.reduceBEq, cond_true, cond_false]) (by rw [HG.out]; exact j4.out) hB.out (by rw [HG.out]; exact fun _ _ h => h) (by rw [HG.out]; exact ⟨fun h => absurd h (by decide), fun h => absurd h (by decide), fun h => absurd h (by decide), fun _ _ _ => E16.out.symm⟩))
          · intro bf ac wv hfb haf hJ K' hK
            obtain ⟨vs, rfl, ja, hB, j4⟩ := hJ
            replace hK := Lib.hid hK
            simp [Region.binds] at haf
            rw [HG.out] at j4
            have e14 := (j4 14 (by simp [haf])).2.1 rfl
            have e16 := ((j4 16 (by simp [haf])).2.2.2 (by decide) (by decide) (by decide)).trans E16.out
            have hb7 : bf 14 = true := by simp [haf]
            replace j4 := Lib.hid (And.intro ja j4)
            have HMB := Lib.hid (hB.2 hb7)
            rw [hb7] at e14
            obtain ⟨aa9, ac9, e14, hor⟩ := e14
            replace hor := Lib.hid (hor rfl)
            clear ja haf hB
            obtain ⟨xx9, x8, y8, x8z⟩ : ∃ xx9, wv.cell? ⟨n, 7, none⟩ = some xx9 ∧ wv.frozen? ⟨n, 7, none⟩ = false ∧ n < wv.heap.size := by
              rcases hor.out with ⟨w0, h0, hg, -⟩ | h0
              · have hc := cs_kept h0.cs hg (nb_own rfl h0.al h0.na)
                exact ⟨_, hc.c 7 rfl, hc.f 7 (by simp), hc.2.2⟩
              · exact ⟨_, h0.cs.c 7 rfl, h0.cs.f 7 (by simp), h0.cs.2.2⟩
            rw [HLIT.out]
            go_simp
            have hfin : WdA base n (some (⟨b1, p1, none⟩ : Addr)) ta va aa9 da uc tc vc ac9 dc (nx + 1) P' t L f V dn A' D (wv.setCell ⟨n, 7, none⟩ (.slice aa9 A'.length ac9)) := by
              rcases hor.out with ⟨w0, h0, hg, hr, ha⟩ | h0
              · exact h0.appA hg hr ha
              · exact h0.re7
            refine hK.out _ _ (NS.next (vs := vs) 17 (by omega) (fun q h => by
              obtain rfl : q = 14 := by simpa using h
              exact hb7) (x := undef) (by rw [HLIT.out]; simp only [upv, e14, e16, Nat.reduceBEq, cond_false]) (by rw [HG.out]; exact j4.out) ⟨fun e => absurd (e.symm.trans hb7) (by simp), fun _ => HMB.out.setCell (p := ⟨n, 7, none⟩) HBN.out _⟩ ?_ (by rw [HG.out]; exact ⟨fun h => absurd h (by decide), fun h => absurd h (by decide), fun _ => fun _ => ⟨aa9, ac9, hfin⟩, fun h13 => fun h14 => fun h17 => absurd rfl h17⟩))
            rw [HG.out, hb7]
            intro kk hbk hh
            exact ⟨fun q => (hh.1 q).put _, fun q => (by subst q; exact ⟨aa9, ac9, e14, fun _ => .inr hfin⟩), fun q => (by rw [q, hfb] at hbk; cases hbk), hh.2.2.2⟩
        · intro bf ac wv hall hJ
          obtain ⟨vs, rfl, -, hB, j4⟩ := hJ
          rw [HG.out] at j4
          rw [hall 14 (by decide)] at hB j4
          have hM := Lib.hid (hB.2 rfl)
          clear hB
          obtain ⟨aa9, ac9, h9⟩ := (j4 17 (hall 17 (by decide))).2.2.1 rfl rfl
          have HF := Lib.hid h9
          clear j4 hall h9
          rw [HLIT.out]
          dsimp only
          clear HLIT HG
          generalize vs = us11
          go_wp2
          go_ret
          exact ⟨rfl, ⟨_, _, _, _, _, _, _, _, _, _, HF.out⟩, HSB.out.trans hM.out⟩
end Go.Proofs.Ytkamkkjijjkfdaa
