/- Delivery: an order arrives. -/
import Derived.Test.YtkamkkjijjkfdaaGb
import Derived.StillTailTactics
import Derived.BigQuiet
import Derived.Deep.CutRange
namespace Go.Proofs.Ytkamkkjijjkfdaa
open Go.RowKit

set_option maxRecDepth 100000 in
set_option maxHeartbeats 8000000 in
theorem arrive_old {base n : Nat} {pa ta va aa da : Option Addr} {pc tc vc ac dc : Nat} {nx : Int} {P : List Od} {t : Int} {L : List Bool} {f : Int} {V : List Int} {dn : Int} {A D : List Od} {a b c d : Int} {w : World} (h : WdA base n pa ta va aa da pc tc vc ac dc nx P t L f V dn A D w) (cf : Bool) (hrw : RW t L f V dn a b c d t L f V dn false 16) (hpb : (P.any fun x => x.a == a) = false) :
    Calls Try.prog 22 #[.pointer (some ⟨n, 0, none⟩), .agg #[.int .i64 a, .int .i64 b, .int .i64 c, .int .i64 d], .bool cf] w fun e w' => e = .returned (.bool true) ∧ WdQ base n aa da w.heap.size nx P t L f V dn A D w' ∧ FB base n da w w' := by
  have H1 := Lib.hid (h.step (al w (.cells #[.int .i64 a, .int .i64 b, .int .i64 c, .int .i64 d] 32)))
  have H2 := Lib.hid (Cs.new w w.heap.size #[.int .i64 a, .int .i64 b, .int .i64 c, .int .i64 d] 32 rfl)
  have HLE := Lib.hid (h.le)
  have H3 := Lib.hid ((FB.refl base n da w).step (al w (.cells #[.int .i64 a, .int .i64 b, .int .i64 c, .int .i64 d] 32)) HLE.out)
  replace HLE := Lib.hid (H1.out.le)
  have HNW := Lib.hid h.cs.2.2
  have HON := Lib.hid (show some w.heap.size ≠ some n from fun q => by have h1 := HNW.out; simp at q; omega)
  have HOD := Lib.hid (show nb da w.heap.size from fun g o q => by have h1 := row_ltN h.dl (Nat.le_refl _) g o q; omega)
  have HPB := Lib.hid hpb
  clear hpb
  have HRW := Lib.hid hrw
  have HAL := Lib.hid (show (L : List Bool).length = 16 from bos_len h.tt)
  clear hrw
  clear h
  go_enter Try.func22, Try.ntmps22
  go_upto_region 1 with fail
  obtain ⟨wq, hwq⟩ : ∃ z, w.alloc (.cells #[.int .i64 a, .int .i64 b, .int .i64 c, .int .i64 d] 32) = z := ⟨_, rfl⟩
  rw [hwq] at H1 H2 H3 HLE ⊢
  clear hwq
  have xw0 := H1.out.cs.c 0 rfl
  have xw1 := H1.out.cs.c 1 rfl
  have xwz := H1.out.cs.2.2
  have xo0 := H2.out.c 0 rfl
  have xoz := H2.out.2.2
  go_still_tail 7, (by kernel_rfl)
  change wpList _ _ _ _ _ wq.drew
  obtain ⟨w2, hw2⟩ : ∃ z, wq.drew = z := ⟨_, rfl⟩
  have b0 : Below wq.heap.size wq w2 := by rw [← hw2]; exact below_drew _ _
  rw [hw2]
  clear hw2
  clear xw0 xw1 xwz xo0 xoz
  have H4 := Lib.hid (H1.out.step b0)
  have H5 := Lib.hid (H2.out.step b0)
  have H6 := Lib.hid (H3.out.step b0 HLE.out)
  clear H1 H2 H3
  replace HLE := Lib.hid (H4.out.le)
  clear b0
  go_wp2_with fail
  refine (has_any (.slice pa P.length pc) P a _ H4.out.pp).mono ?_
  rintro e w3 ⟨rfl, b3⟩
  have H7 := Lib.hid (H4.out.step b3)
  have H8 := Lib.hid (H5.out.step b3)
  have H9 := Lib.hid (H6.out.step b3 HLE.out)
  clear H4 H5 H6
  replace HLE := Lib.hid (H7.out.le)
  clear b3
  rw [HPB.out]
  go_upto_region 2 with fail
  go_cut [8, 9, 10] from 19 to 28 (fun p1 p2 p3 wc => ∃ (k c1 d1 : Nat) (a1 v1 : Option Addr), p1 = .pointer (some ⟨k, 0, none⟩) ∧ p2 = .bool false ∧ p3 = .int .i64 16 ∧ w3.heap.size ≤ k ∧ Cs wc k #[.int .i64 t, .slice a1 16 c1, .int .i64 f, .slice v1 4 d1, .int .i64 dn] ∧ RvS w3.heap.size L V c1 d1 a1 v1 wc ∧ Below w3.heap.size w3 wc)
  case first =>
    obtain ⟨lit, hlit⟩ : ∃ lit : (Nat → Value) → Act, lit = fun vs => { tmps := List.toArray (Value.pointer (some { block := n, off := 0 }) :: Value.agg #[Value.int IntKind.i64 a, Value.int IntKind.i64 b, Value.int IntKind.i64 c, Value.int IntKind.i64 d] :: Value.bool cf :: undef :: Value.pointer (some { block := w.heap.size, off := 0 }) :: undef :: Value.bool false :: Value.bool false :: vs 10 :: vs 12 :: vs 13 :: Value.pointer (some { block := n, off := 0 }) :: Value.pointer (some { block := n, off := 0 }) :: Value.pointer (some { block := n, off := 0 }) :: Value.pointer (some { block := n, off := 1 }) :: Value.slice pa P.length pc :: Value.pointer (some { block := w.heap.size, off := 0 }) :: Value.int IntKind.i64 a :: Value.bool false :: vs 6 :: vs 0 :: vs 1 :: vs 2 :: vs 3 :: vs 4 :: vs 5 :: vs 7 :: vs 8 :: vs 9 :: undef :: undef :: undef :: undef :: undef :: undef :: undef :: undef :: undef :: undef :: undef :: undef :: undef :: undef :: undef :: undef :: undef :: undef :: undef :: undef :: undef :: undef :: undef :: undef :: undef :: undef :: undef :: undef :: undef :: undef :: undef :: undef :: undef :: undef :: undef :: undef :: undef :: undef :: undef :: undef :: undef :: undef :: undef :: undef :: undef :: undef :: undef :: undef :: undef :: undef :: undef :: undef :: undef :: undef :: undef :: undef :: undef :: undef :: undef :: undef :: undef :: undef :: undef :: undef :: undef :: undef :: undef :: undef :: undef :: undef :: undef :: undef :: undef :: undef :: undef :: undef :: undef :: undef :: undef :: undef :: undef :: undef :: undef :: undef :: undef :: undef :: undef :: undef :: undef :: undef :: undef :: undef :: undef :: undef :: undef :: undef :: undef :: undef :: undef :: undef :: undef :: undef :: undef :: undef :: undef :: undef :: undef :: undef :: undef :: undef :: undef :: undef :: undef :: undef :: []), defers := [] } := ⟨_, rfl⟩
    have HLIT := Lib.hid hlit
    clear hlit
    obtain ⟨val, hval⟩ : ∃ val : List Value, val = [.pointer (some ⟨n, 0, none⟩), .pointer (some ⟨n, 0, none⟩), .pointer (some ⟨n, 2, none⟩), .agg #[.int .i64 t, .slice ta 16 tc, .int .i64 f, .slice va 4 vc, .int .i64 dn], .agg #[.int .i64 a, .int .i64 b, .int .i64 c, .int .i64 d], undef, undef, undef, .bool false, .int .i64 16, undef, undef, .bool false, .int .i64 16] := ⟨_, rfl⟩
    have E0 := Lib.hid (show val.getD 0 undef = .pointer (some ⟨n, 0, none⟩) by rw [hval]; rfl)
    have E1 := Lib.hid (show val.getD 1 undef = .pointer (some ⟨n, 0, none⟩) by rw [hval]; rfl)
    have E2 := Lib.hid (show val.getD 2 undef = .pointer (some ⟨n, 2, none⟩) by rw [hval]; rfl)
    have E3 := Lib.hid (show val.getD 3 undef = .agg #[.int .i64 t, .slice ta 16 tc, .int .i64 f, .slice va 4 vc, .int .i64 dn] by rw [hval]; rfl)
    have E4 := Lib.hid (show val.getD 4 undef = .agg #[.int .i64 a, .int .i64 b, .int .i64 c, .int .i64 d] by rw [hval]; rfl)
    have E8 := Lib.hid (show val.getD 8 undef = .bool false by rw [hval]; rfl)
    have E9 := Lib.hid (show val.getD 9 undef = .int .i64 16 by rw [hval]; rfl)
    have E12 := Lib.hid (show val.getD 12 undef = .bool false by rw [hval]; rfl)
    have E13 := Lib.hid (show val.getD 13 undef = .int .i64 16 by rw [hval]; rfl)
    clear hval
    obtain ⟨G, hG0⟩ : ∃ G : Bool → Nat → Value → World → Prop, G = (fun bq iq vq ww => (iq = 5 → Qvt w3.heap.size t L f V dn false 16 bq vq ww) ∧ (iq = 6 → Qvt w3.heap.size t L f V dn false 16 bq vq ww) ∧ (iq = 7 → Qva w3.heap.size t L f V dn bq vq ww) ∧ (iq = 10 → Qvk w3.heap.size t L f V dn bq vq ww) ∧ (iq ≠ 5 → iq ≠ 6 → iq ≠ 7 → iq ≠ 10 → iq ≠ 11 → vq = val.getD iq undef)) := ⟨_, rfl⟩
    have HG := Lib.hid hG0
    clear hG0
    refine region_inv (NS lit 11 (fun p q => (p == 11 && q == 3) || (p == 11 && q == 4) || (p == 11 && q == 5) || (p == 11 && q == 10)) G fun bq wv => (bq = false → Below w3.heap.size w3 wv) ∧ (bq = true → Below w3.heap.size w3 wv)) (by kernel_rfl) (by decide +kernel) ?_ ?_ ?_
    · exact NS.start (fun i => ([undef, undef, undef, undef, undef, undef, undef, undef, undef, undef, undef, undef, undef, undef] : List Value).getD i undef) (by rw [HLIT.out]; rfl) ⟨fun _ => below_drew _ _, fun h => (by cases h)⟩
    · refine ⟨?_, ?_, ?_, ?_, ?_, ?_, ?_, ?_, ?_, ?_, ?_, ?_, ?_, ?_, trivial⟩
      · intro bf ac wv hfb haf hJ K' hK
        obtain ⟨vs, rfl, ja, hB, j4⟩ := hJ
        replace hK := Lib.hid hK
        rw [HG.out] at j4
        replace j4 := Lib.hid (And.intro ja j4)
        replace hB := Lib.hid hB
        clear ja haf
        rw [HLIT.out]
        go_simp
        exact hK.out _ _ (NS.next (vs := vs) 0 (by omega) (fun q h => absurd h (by simp)) (x := .pointer (some ⟨n, 0, none⟩)) (by rw [HLIT.out]; rfl) (by rw [HG.out]; exact j4.out) hB.out (by rw [HG.out]; exact fun _ _ h => h) (by rw [HG.out]; exact ⟨fun h => absurd h (by decide), fun h => absurd h (by decide), fun h => absurd h (by decide), fun h => absurd h (by decide), fun _ _ _ _ _ => E0.out.symm⟩))
      · intro bf ac wv hfb haf hJ K' hK
        obtain ⟨vs, rfl, ja, hB, j4⟩ := hJ
        replace hK := Lib.hid hK
        simp [Region.binds] at haf
        rw [HG.out] at j4
        have e0 := ((j4 0 (by simp [haf])).2.2.2.2 (by decide) (by decide) (by decide) (by decide) (by decide)).trans E0.out
        replace j4 := Lib.hid (And.intro ja j4)
        replace hB := Lib.hid hB
        clear ja haf
        rw [HLIT.out]
        go_simp
        exact hK.out _ _ (NS.next (vs := vs) 1 (by omega) (fun q h => absurd h (by simp)) (x := .pointer (some ⟨n, 0, none⟩)) (by rw [HLIT.out]; simp only [upv, e0, Nat.reduceBEq, cond_true, cond_false]) (by rw [HG.out]; exact j4.out) hB.out (by rw [HG.out]; exact fun _ _ h => h) (by rw [HG.out]; exact ⟨fun h => absurd h (by decide), fun h => absurd h (by decide), fun h => absurd h (by decide), fun h => absurd h (by decide), fun _ _ _ _ _ => E1.out.symm⟩))
      · intro bf ac wv hfb haf hJ K' hK
        obtain ⟨vs, rfl, ja, hB, j4⟩ := hJ
        replace hK := Lib.hid hK
        simp [Region.binds] at haf
        rw [HG.out] at j4
        have e1 := ((j4 1 (by simp [haf])).2.2.2.2 (by decide) (by decide) (by decide) (by decide) (by decide)).trans E1.out
        replace j4 := Lib.hid (And.intro ja j4)
        replace hB := Lib.hid hB
        clear ja haf
        rw [HLIT.out]
        go_simp
        exact hK.out _ _ (NS.next (vs := vs) 2 (by omega) (fun q h => absurd h (by simp)) (x := .pointer (some ⟨n, 2, none⟩)) (by rw [HLIT.out]; simp only [upv, e1, Nat.reduceBEq, cond_true, cond_false]) (by rw [HG.out]; exact j4.out) hB.out (by rw [HG.out]; exact fun _ _ h => h) (by rw [HG.out]; exact ⟨fun h => absurd h (by decide), fun h => absurd h (by decide), fun h => absurd h (by decide), fun h => absurd h (by decide), fun _ _ _ _ _ => E2.out.symm⟩))
      · intro bf ac wv hfb haf hJ K' hK
        obtain ⟨vs, rfl, ja, hB, j4⟩ := hJ
        replace hK := Lib.hid hK
        simp [Region.binds] at haf
        rw [HG.out] at j4
        have e2 := ((j4 2 (by simp [haf])).2.2.2.2 (by decide) (by decide) (by decide) (by decide) (by decide)).trans E2.out
        have hd : bf 11 = false := by
          cases h : bf 11
          · rfl
          · exact absurd ((ja 11 3 rfl h).symm.trans hfb) (by simp)
        have hM := Lib.hid (hB.1 hd)
        replace j4 := Lib.hid (And.intro ja j4)
        replace hB := Lib.hid hB
        clear ja haf
        have xx2 := (H7.out.step hM.out).cs.c 2 rfl
        have xx3 := (H7.out.step hM.out).cs.c 3 rfl
        have xx4 := (H7.out.step hM.out).cs.c 4 rfl
        have xx5 := (H7.out.step hM.out).cs.c 5 rfl
        have xx6 := (H7.out.step hM.out).cs.c 6 rfl
        have xxz := (H7.out.step hM.out).cs.2.2
        rw [HLIT.out]
        go_simp
        exact hK.out _ _ (NS.next (vs := vs) 3 (by omega) (fun q h => absurd h (by simp)) (x := .agg #[.int .i64 t, .slice ta 16 tc, .int .i64 f, .slice va 4 vc, .int .i64 dn]) (by rw [HLIT.out]; simp only [upv, e2, Nat.reduceBEq, cond_true, cond_false]) (by rw [HG.out]; exact j4.out) hB.out (by rw [HG.out]; exact fun _ _ h => h) (by rw [HG.out]; exact ⟨fun h => absurd h (by decide), fun h => absurd h (by decide), fun h => absurd h (by decide), fun h => absurd h (by decide), fun _ _ _ _ _ => E3.out.symm⟩))
      · intro bf ac wv hfb haf hJ K' hK
        obtain ⟨vs, rfl, ja, hB, j4⟩ := hJ
        replace hK := Lib.hid hK
        rw [HG.out] at j4
        have hd : bf 11 = false := by
          cases h : bf 11
          · rfl
          · exact absurd ((ja 11 4 rfl h).symm.trans hfb) (by simp)
        have hM := Lib.hid (hB.1 hd)
        replace j4 := Lib.hid (And.intro ja j4)
        replace hB := Lib.hid hB
        clear ja haf
        have xp0 := (H8.out.step hM.out).c 0 rfl
        have xp1 := (H8.out.step hM.out).c 1 rfl
        have xp2 := (H8.out.step hM.out).c 2 rfl
        have xp3 := (H8.out.step hM.out).c 3 rfl
        have xpz := (H8.out.step hM.out).2.2
        rw [HLIT.out]
        go_simp
        exact hK.out _ _ (NS.next (vs := vs) 4 (by omega) (fun q h => absurd h (by simp)) (x := .agg #[.int .i64 a, .int .i64 b, .int .i64 c, .int .i64 d]) (by rw [HLIT.out]; rfl) (by rw [HG.out]; exact j4.out) hB.out (by rw [HG.out]; exact fun _ _ h => h) (by rw [HG.out]; exact ⟨fun h => absurd h (by decide), fun h => absurd h (by decide), fun h => absurd h (by decide), fun h => absurd h (by decide), fun _ _ _ _ _ => E4.out.symm⟩))
      · intro bf ac wv hfb haf hJ K' hK
        obtain ⟨vs, rfl, ja, hB, j4⟩ := hJ
        replace hK := Lib.hid hK
        simp [Region.binds] at haf
        rw [HG.out] at j4
        have e3 := ((j4 3 (by simp [haf])).2.2.2.2 (by decide) (by decide) (by decide) (by decide) (by decide)).trans E3.out
        have e4 := ((j4 4 (by simp [haf])).2.2.2.2 (by decide) (by decide) (by decide) (by decide) (by decide)).trans E4.out
        have hd : bf 11 = false := by
          cases h : bf 11
          · rfl
          · exact absurd ((ja 11 5 rfl h).symm.trans hfb) (by simp)
        have hM := Lib.hid (hB.1 hd)
        replace j4 := Lib.hid (And.intro ja j4)
        replace hB := Lib.hid hB
        clear ja haf
        rw [HLIT.out]
        go_simp
        go_at_call 13
        refine (rcv_w HRW.out HAL.out _ _ _ (H7.out.step hM.out).tt (H7.out.step hM.out).vv (bos_len H7.out.tt) (ints_len H7.out.vv)).mono ?_
        rintro e w4 ⟨⟨c1, d1, a1, v1, rfl, hr⟩, b4⟩
        exact hK.out _ _ (NS.next (vs := vs) 5 (by omega) (fun q h => absurd h (by simp)) (x := (.tuple #[.agg #[.int .i64 t, .slice a1 16 c1, .int .i64 f, .slice v1 4 d1, .int .i64 dn], .bool false, .int .i64 16])) (by rw [HLIT.out]; simp only [upv, e3, e4, Nat.reduceBEq, cond_true, cond_false]) (by rw [HG.out]; exact j4.out) ⟨fun _ => keep2 b4 hM.out, fun e => absurd (e.symm.trans hd) (by simp)⟩ (by rw [HG.out]; exact fun k hbk h => ⟨fun q => (h.1 q).step b4, fun q => (h.2.1 q).step b4, fun q => (h.2.2.1 q).step b4, fun q => (h.2.2.2.1 q).step b4, h.2.2.2.2⟩) (by rw [HG.out]; exact ⟨fun _ => ⟨c1, d1, a1, v1, rfl, fun _ => ⟨hr.1, hr.2.1, hr.2.2.1, fun g o e => Nat.le_trans hM.out.size (hr.2.2.2.1 g o e), fun g o e => Nat.le_trans hM.out.size (hr.2.2.2.2 g o e)⟩⟩, fun h => absurd h (by decide), fun h => absurd h (by decide), fun h => absurd h (by decide), fun h5 => absurd rfl h5⟩))
      · intro bf ac wv hfb haf hJ K' hK
        obtain ⟨vs, rfl, ja, hB, j4⟩ := hJ
        replace hK := Lib.hid hK
        simp [Region.binds] at haf
        rw [HG.out] at j4
        have e5 := (j4 5 (by simp [haf])).1 rfl
        replace j4 := Lib.hid (And.intro ja j4)
        replace hB := Lib.hid hB
        clear ja haf
        obtain ⟨c1, d1, a1, v1, e5, hr⟩ := e5
        rw [HLIT.out]
        go_simp
        exact hK.out _ _ (NS.next (vs := vs) 6 (by omega) (fun q h => absurd h (by simp)) (x := (.tuple #[.agg #[.int .i64 t, .slice a1 16 c1, .int .i64 f, .slice v1 4 d1, .int .i64 dn], .bool false, .int .i64 16])) (by rw [HLIT.out]; simp only [upv, e5, Nat.reduceBEq, cond_true, cond_false]) (by rw [HG.out]; exact j4.out) hB.out (by rw [HG.out]; exact fun _ _ h => h) (by rw [HG.out]; exact ⟨fun h => absurd h (by decide), fun _ => ⟨c1, d1, a1, v1, rfl, hr⟩, fun h => absurd h (by decide), fun h => absurd h (by decide), fun h5 h6 => absurd rfl h6⟩))
      · intro bf ac wv hfb haf hJ K' hK
        obtain ⟨vs, rfl, ja, hB, j4⟩ := hJ
        replace hK := Lib.hid hK
        simp [Region.binds] at haf
        rw [HG.out] at j4
        have e6 := (j4 6 (by simp [haf])).2.1 rfl
        replace j4 := Lib.hid (And.intro ja j4)
        replace hB := Lib.hid hB
        clear ja haf
        obtain ⟨c1, d1, a1, v1, e6, hr⟩ := e6
        rw [HLIT.out]
        go_simp
        exact hK.out _ _ (NS.next (vs := vs) 7 (by omega) (fun q h => absurd h (by simp)) (x := (.agg #[.int .i64 t, .slice a1 16 c1, .int .i64 f, .slice v1 4 d1, .int .i64 dn])) (by rw [HLIT.out]; simp only [upv, e6, Nat.reduceBEq, cond_true, cond_false]) (by rw [HG.out]; exact j4.out) hB.out (by rw [HG.out]; exact fun _ _ h => h) (by rw [HG.out]; exact ⟨fun h => absurd h (by decide), fun h => absurd h (by decide), fun _ => ⟨c1, d1, a1, v1, rfl, hr⟩, fun h => absurd h (by decide), fun h5 h6 h7 => absurd rfl h7⟩))
      · intro bf ac wv hfb haf hJ K' hK
        obtain ⟨vs, rfl, ja, hB, j4⟩ := hJ
        replace hK := Lib.hid hK
        simp [Region.binds] at haf
        rw [HG.out] at j4
        have e6 := (j4 6 (by simp [haf])).2.1 rfl
        replace j4 := Lib.hid (And.intro ja j4)
        replace hB := Lib.hid hB
        clear ja haf
        obtain ⟨c1, d1, a1, v1, e6, hr⟩ := e6
        rw [HLIT.out]
        go_simp
        exact hK.out _ _ (NS.next (vs := vs) 8 (by omega) (fun q h => absurd h (by simp)) (x := .bool false) (by rw [HLIT.out]; simp only [upv, e6, Nat.reduceBEq, cond_true, cond_false]) (by rw [HG.out]; exact j4.out) hB.out (by rw [HG.out]; exact fun _ _ h => h) (by rw [HG.out]; exact ⟨fun h => absurd h (by decide), fun h => absurd h (by decide), fun h => absurd h (by decide), fun h => absurd h (by decide), fun _ _ _ _ _ => E8.out.symm⟩))
      · intro bf ac wv hfb haf hJ K' hK
        obtain ⟨vs, rfl, ja, hB, j4⟩ := hJ
        replace hK := Lib.hid hK
        simp [Region.binds] at haf
        rw [HG.out] at j4
        have e6 := (j4 6 (by simp [haf])).2.1 rfl
        replace j4 := Lib.hid (And.intro ja j4)
        replace hB := Lib.hid hB
        clear ja haf
        obtain ⟨c1, d1, a1, v1, e6, hr⟩ := e6
        rw [HLIT.out]
        go_simp
        exact hK.out _ _ (NS.next (vs := vs) 9 (by omega) (fun q h => absurd h (by simp)) (x := .int .i64 16) (by rw [HLIT.out]; simp only [upv, e6, Nat.reduceBEq, cond_true, cond_false]) (by rw [HG.out]; exact j4.out) hB.out (by rw [HG.out]; exact fun _ _ h => h) (by rw [HG.out]; exact ⟨fun h => absurd h (by decide), fun h => absurd h (by decide), fun h => absurd h (by decide), fun h => absurd h (by decide), fun _ _ _ _ _ => E9.out.symm⟩))
      · intro bf ac wv hfb haf hJ K' hK
        obtain ⟨vs, rfl, ja, hB, j4⟩ := hJ
        replace hK := Lib.hid hK
        rw [HG.out] at j4
        have hd : bf 11 = false := by
          cases h : bf 11
          · rfl
          · exact absurd ((ja 11 10 rfl h).symm.trans hfb) (by simp)
        have hM := Lib.hid (hB.1 hd)
        replace j4 := Lib.hid (And.intro ja j4)
        replace hB := Lib.hid hB
        clear ja haf
        rw [HLIT.out]
        go_simp
        have b4 := al wv (.cells Z5 30)
        exact hK.out _ _ (NS.next (vs := vs) 10 (by omega) (fun q h => absurd h (by simp)) (x := (.pointer (some ⟨wv.heap.size, 0, none⟩))) (by rw [HLIT.out]; rfl) (by rw [HG.out]; exact j4.out) ⟨fun _ => keep2 b4 hM.out, fun e => absurd (e.symm.trans hd) (by simp)⟩ (by rw [HG.out]; exact fun k hbk h => ⟨fun q => (h.1 q).step b4, fun q => (h.2.1 q).step b4, fun q => (h.2.2.1 q).step b4, fun q => (h.2.2.2.1 q).step b4, h.2.2.2.2⟩) (by rw [HG.out]; exact ⟨fun h => absurd h (by decide), fun h => absurd h (by decide), fun h => absurd h (by decide), fun _ => ⟨wv.heap.size, rfl, hM.out.size, fun _ => BoxN.new wv Z5 30, fun e => absurd (e.symm.trans hd) (by simp)⟩, fun h5 h6 h7 h10 => absurd rfl h10⟩))
      · intro bf ac wv hfb haf hJ K' hK
        obtain ⟨vs, rfl, ja, hB, j4⟩ := hJ
        replace hK := Lib.hid hK
        simp [Region.binds] at haf
        rw [HG.out] at j4
        have e7 := (j4 7 (by simp [haf])).2.2.1 rfl
        have e10 := (j4 10 (by simp [haf])).2.2.2.1 rfl
        rw [hfb] at j4 hB
        try rw [hfb] at e7
        try rw [hfb] at e10
        have HA := Lib.hid (show ∀ q, (fun p q => (p == 11 && q == 3) || (p == 11 && q == 4) || (p == 11 && q == 5) || (p == 11 && q == 10)) 11 q = true → bf q = true from fun q hi => by
          obtain rfl | rfl | rfl | rfl : q = 3 ∨ q = 4 ∨ q = 5 ∨ q = 10 := by simpa [or_assoc] using hi
          all_goals simp [haf])
        have hM := Lib.hid (hB.1 rfl)
        replace j4 := Lib.hid j4
        have HE := Lib.hid (And.intro ja HA.out)
        clear ja haf hB HA
        obtain ⟨k, e10, hk, hz, -⟩ := e10
        replace hz := hz rfl
        obtain ⟨c1, d1, a1, v1, e7, hr⟩ := e7
        replace hr := Lib.hid (hr rfl)
        replace hk := Lib.hid hk
        have HZ := Lib.hid hz
        have HZC := Lib.hid (Cs.of_heap hz)
        have x0 := HZC.out.c 0 rfl
        have y0 := HZC.out.f 0 (by simp [Z5])
        have x1 := HZC.out.c 1 rfl
        have y1 := HZC.out.f 1 (by simp [Z5])
        have x2 := HZC.out.c 2 rfl
        have y2 := HZC.out.f 2 (by simp [Z5])
        have x3 := HZC.out.c 3 rfl
        have y3 := HZC.out.f 3 (by simp [Z5])
        have x4 := HZC.out.c 4 rfl
        have y4 := HZC.out.f 4 (by simp [Z5])
        have xz := HZC.out.2.2
        clear hz
        rw [HLIT.out]
        go_simp
        obtain ⟨p1, p2, p3⟩ := put5_ok t f dn HZ.out hr.out hk.out
        exact hK.out _ _ (NS.put (vs := vs) (w' := put5 wv k t f dn c1 d1 a1 v1) (by rw [HLIT.out]; simp only [e10, e7]) HE.out ⟨fun e => (by cases e), fun _ => hM.out.trans p3⟩ (fun j hj hb => by
          rw [HG.out]
          have q := j4.out j hb
          exact ⟨fun h => (q.1 h).put _, fun h => (q.2.1 h).put _, fun h => (q.2.2.1 h).put _, fun h => by
            subst h
            exact ⟨k, e10, hk.out, fun e => (by cases e), fun _ => ⟨c1, d1, a1, v1, p1, p2⟩⟩, q.2.2.2.2⟩) (fun v => by rw [HG.out]; exact ⟨fun h => absurd h (by decide), fun h => absurd h (by decide), fun h => absurd h (by decide), fun h => absurd h (by decide), fun h5 h6 h7 h10 h11 => absurd rfl h11⟩))
      · intro bf ac wv hfb haf hJ K' hK
        obtain ⟨vs, rfl, ja, hB, j4⟩ := hJ
        replace hK := Lib.hid hK
        simp [Region.binds] at haf
        rw [HG.out] at j4
        have e8 := ((j4 8 (by simp [haf])).2.2.2.2 (by decide) (by decide) (by decide) (by decide) (by decide)).trans E8.out
        replace j4 := Lib.hid (And.intro ja j4)
        replace hB := Lib.hid hB
        clear ja haf
        rw [HLIT.out]
        go_simp
        exact hK.out _ _ (NS.next (vs := vs) 12 (by omega) (fun q h => absurd h (by simp)) (x := .bool false) (by rw [HLIT.out]; simp only [upv, e8, Nat.reduceBEq, cond_true, cond_false]) (by rw [HG.out]; exact j4.out) hB.out (by rw [HG.out]; exact fun _ _ h => h) (by rw [HG.out]; exact ⟨fun h => absurd h (by decide), fun h => absurd h (by decide), fun h => absurd h (by decide), fun h => absurd h (by decide), fun _ _ _ _ _ => E12.out.symm⟩))
      · intro bf ac wv hfb haf hJ K' hK
        obtain ⟨vs, rfl, ja, hB, j4⟩ := hJ
        replace hK := Lib.hid hK
        simp [Region.binds] at haf
        rw [HG.out] at j4
        have e9 := ((j4 9 (by simp [haf])).2.2.2.2 (by decide) (by decide) (by decide) (by decide) (by decide)).trans E9.out
        replace j4 := Lib.hid (And.intro ja j4)
        replace hB := Lib.hid hB
        clear ja haf
        rw [HLIT.out]
        go_simp
        exact hK.out _ _ (NS.next (vs := vs) 13 (by omega) (fun q h => absurd h (by simp)) (x := .int .i64 16) (by rw [HLIT.out]; simp only [upv, e9, Nat.reduceBEq, cond_true, cond_false]) (by rw [HG.out]; exact j4.out) hB.out (by rw [HG.out]; exact fun _ _ h => h) (by rw [HG.out]; exact ⟨fun h => absurd h (by decide), fun h => absurd h (by decide), fun h => absurd h (by decide), fun h => absurd h (by decide), fun _ _ _ _ _ => E13.out.symm⟩))
    · intro bf ac wv hall hJ
      obtain ⟨vs, rfl, -, hB, j4⟩ := hJ
      rw [HG.out] at j4
      rw [hall 11 (by decide)] at hB j4
      have hM := Lib.hid (hB.2 rfl)
      clear hB
      obtain ⟨k, e10, hk, -, hp⟩ := (j4 10 (hall 10 (by decide))).2.2.2.1 rfl
      obtain ⟨c1, d1, a1, v1, hc, hr⟩ := hp rfl
      have e12 := ((j4 12 (hall 12 (by decide))).2.2.2.2 (by decide) (by decide) (by decide) (by decide) (by decide)).trans E12.out
      have e13 := ((j4 13 (hall 13 (by decide))).2.2.2.2 (by decide) (by decide) (by decide) (by decide) (by decide)).trans E13.out
      clear j4 hall
      rw [HLIT.out]
      dsimp only
      rw [e10, e12, e13]
      clear e10 e12 e13
      go_wp2
      go_meet
      exact ⟨k, c1, d1, a1, v1, rfl, rfl, rfl, hk, hc, hr, hM.out⟩
  case rest =>
    obtain ⟨k, c1, d1, a1, v1, rfl, rfl, rfl, hk, hc, hr, b5⟩ := hcut
    have HKK := Lib.hid hk
    have HKR := Lib.hid hc
    have HRV := Lib.hid hr
    clear hk hc hr
    have HWB := Lib.hid H7.out
    have H10 := Lib.hid (H7.out.step b5)
    have H11 := Lib.hid (H8.out.step b5)
    have H12 := Lib.hid (H9.out.step b5 HLE.out)
    clear H7 H8 H9
    replace HLE := Lib.hid (H10.out.le)
    clear b5
    go_upto_region 4 with fail
    obtain ⟨lit, hlit⟩ : ∃ lit : (Nat → Value) → Act, lit = fun vs => { tmps := List.toArray (Value.pointer (some { block := n, off := 0 }) :: Value.agg #[Value.int IntKind.i64 a, Value.int IntKind.i64 b, Value.int IntKind.i64 c, Value.int IntKind.i64 d] :: Value.bool cf :: undef :: Value.pointer (some { block := w.heap.size, off := 0 }) :: undef :: vs 32 :: Value.bool false :: Value.pointer (some { block := k, off := 0 }) :: Value.bool false :: Value.int IntKind.i64 16 :: Value.pointer (some { block := n, off := 0 }) :: Value.pointer (some { block := n, off := 0 }) :: Value.pointer (some { block := n, off := 0 }) :: Value.pointer (some { block := n, off := 1 }) :: Value.slice pa P.length pc :: Value.pointer (some { block := w.heap.size, off := 0 }) :: Value.int IntKind.i64 a :: Value.bool false :: u19 :: u20 :: u21 :: u22 :: u23 :: u24 :: u25 :: u26 :: u27 :: u28 :: Value.int IntKind.i64 16 :: Value.bool true :: vs 0 :: vs 1 :: vs 2 :: vs 3 :: vs 4 :: vs 5 :: vs 6 :: vs 7 :: vs 8 :: vs 9 :: vs 10 :: vs 11 :: vs 12 :: vs 13 :: vs 14 :: vs 15 :: vs 16 :: vs 17 :: vs 18 :: vs 19 :: vs 20 :: vs 21 :: vs 22 :: vs 23 :: vs 24 :: vs 25 :: vs 26 :: vs 27 :: vs 28 :: vs 29 :: vs 30 :: vs 31 :: undef :: undef :: undef :: undef :: undef :: undef :: undef :: undef :: undef :: undef :: undef :: undef :: undef :: undef :: undef :: undef :: undef :: undef :: undef :: undef :: undef :: undef :: undef :: undef :: undef :: undef :: undef :: undef :: undef :: undef :: undef :: undef :: undef :: undef :: undef :: undef :: undef :: undef :: undef :: undef :: undef :: undef :: undef :: undef :: undef :: undef :: undef :: undef :: undef :: undef :: undef :: undef :: undef :: undef :: undef :: undef :: undef :: undef :: undef :: undef :: undef :: undef :: undef :: undef :: undef :: undef :: undef :: undef :: undef :: undef :: undef :: undef :: undef :: undef :: undef :: undef :: undef :: undef :: undef :: undef :: []), defers := [] } := ⟨_, rfl⟩
    have HLIT := Lib.hid hlit
    clear hlit
    obtain ⟨val, hval⟩ : ∃ val : List Value, val = [.bool false, .bool true, .bool true, .agg #[.int .i64 t, .slice a1 16 c1, .int .i64 f, .slice v1 4 d1, .int .i64 dn], .pointer (some ⟨n, 0, none⟩), .pointer (some ⟨n, 0, none⟩), .pointer (some ⟨n, 2, none⟩), .agg #[.int .i64 t, .slice ta 16 tc, .int .i64 f, .slice va 4 vc, .int .i64 dn], .bool true, .bool true, .bool true, .int .i64 16, .bool false, .bool false, undef, undef, undef, undef, undef, undef, undef, undef, .bool false, .bool false, .int .i64 16, .bool true, .bool true, .bool false, .bool true, .bool true, .bool true, .bool true, .bool true] := ⟨_, rfl⟩
    have E0 := Lib.hid (show val.getD 0 undef = .bool false by rw [hval]; rfl)
    have E1 := Lib.hid (show val.getD 1 undef = .bool true by rw [hval]; rfl)
    have E2 := Lib.hid (show val.getD 2 undef = .bool true by rw [hval]; rfl)
    have E3 := Lib.hid (show val.getD 3 undef = .agg #[.int .i64 t, .slice a1 16 c1, .int .i64 f, .slice v1 4 d1, .int .i64 dn] by rw [hval]; rfl)
    have E4 := Lib.hid (show val.getD 4 undef = .pointer (some ⟨n, 0, none⟩) by rw [hval]; rfl)
    have E5 := Lib.hid (show val.getD 5 undef = .pointer (some ⟨n, 0, none⟩) by rw [hval]; rfl)
    have E6 := Lib.hid (show val.getD 6 undef = .pointer (some ⟨n, 2, none⟩) by rw [hval]; rfl)
    have E7 := Lib.hid (show val.getD 7 undef = .agg #[.int .i64 t, .slice ta 16 tc, .int .i64 f, .slice va 4 vc, .int .i64 dn] by rw [hval]; rfl)
    have E8 := Lib.hid (show val.getD 8 undef = .bool true by rw [hval]; rfl)
    have E9 := Lib.hid (show val.getD 9 undef = .bool true by rw [hval]; rfl)
    have E10 := Lib.hid (show val.getD 10 undef = .bool true by rw [hval]; rfl)
    have E11 := Lib.hid (show val.getD 11 undef = .int .i64 16 by rw [hval]; rfl)
    have E12 := Lib.hid (show val.getD 12 undef = .bool false by rw [hval]; rfl)
    have E13 := Lib.hid (show val.getD 13 undef = .bool false by rw [hval]; rfl)
    have E14 := Lib.hid (show val.getD 14 undef = undef by rw [hval]; rfl)
    have E15 := Lib.hid (show val.getD 15 undef = undef by rw [hval]; rfl)
    have E16 := Lib.hid (show val.getD 16 undef = undef by rw [hval]; rfl)
    have E17 := Lib.hid (show val.getD 17 undef = undef by rw [hval]; rfl)
    have E18 := Lib.hid (show val.getD 18 undef = undef by rw [hval]; rfl)
    have E19 := Lib.hid (show val.getD 19 undef = undef by rw [hval]; rfl)
    have E20 := Lib.hid (show val.getD 20 undef = undef by rw [hval]; rfl)
    have E21 := Lib.hid (show val.getD 21 undef = undef by rw [hval]; rfl)
    have E22 := Lib.hid (show val.getD 22 undef = .bool false by rw [hval]; rfl)
    have E23 := Lib.hid (show val.getD 23 undef = .bool false by rw [hval]; rfl)
    have E24 := Lib.hid (show val.getD 24 undef = .int .i64 16 by rw [hval]; rfl)
    have E25 := Lib.hid (show val.getD 25 undef = .bool true by rw [hval]; rfl)
    have E26 := Lib.hid (show val.getD 26 undef = .bool true by rw [hval]; rfl)
    have E27 := Lib.hid (show val.getD 27 undef = .bool false by rw [hval]; rfl)
    have E28 := Lib.hid (show val.getD 28 undef = .bool true by rw [hval]; rfl)
    have E29 := Lib.hid (show val.getD 29 undef = .bool true by rw [hval]; rfl)
    have E30 := Lib.hid (show val.getD 30 undef = .bool true by rw [hval]; rfl)
    have E31 := Lib.hid (show val.getD 31 undef = .bool true by rw [hval]; rfl)
    have E32 := Lib.hid (show val.getD 32 undef = .bool true by rw [hval]; rfl)
    clear hval
    obtain ⟨G, hG0⟩ : ∃ G : Nat → Value → World → Prop, G = (fun i v w => (v = val.getD i undef)) := ⟨_, rfl⟩
    have HG := Lib.hid hG0
    clear hG0
    refine region_inv (RS lit wc G) (by kernel_rfl) (by decide +kernel) ?_ ?_ ?_
    · exact ⟨fun i => ([undef, undef, undef, undef, undef, undef, undef, undef, undef, undef, undef, undef, undef, undef, undef, undef, undef, undef, undef, undef, undef, undef, undef, undef, undef, undef, undef, undef, undef, undef, undef, undef, Value.bool false] : List Value).getD i undef, (by rw [HLIT.out]; rfl), below_drew _ _, fun i h => by cases h⟩
    · refine ⟨?_, ?_, ?_, ?_, ?_, ?_, ?_, ?_, ?_, ?_, ?_, ?_, ?_, ?_, ?_, ?_, ?_, ?_, ?_, ?_, ?_, ?_, ?_, ?_, ?_, ?_, ?_, ?_, ?_, ?_, ?_, ?_, ?_, trivial⟩
      · intro bf ac wv hfb haf hJ K' hK
        obtain ⟨vs, rfl, hM, j4⟩ := hJ
        replace hK := Lib.hid hK
        replace hM := Lib.hid hM
        rw [HG.out] at j4
        replace j4 := Lib.hid j4
        clear haf hfb
        rw [HLIT.out]
        go_simp
        exact hK.out _ _ (RS.next (wv := wv) (vs := vs) 0 (x := .bool false) (by rw [HLIT.out]; rfl) (by rw [HG.out]; exact j4.out) hM.out (by rw [HG.out]; exact fun _ _ h => h) (by rw [HG.out]; exact E0.out.symm))
      · intro bf ac wv hfb haf hJ K' hK
        obtain ⟨vs, rfl, hM, j4⟩ := hJ
        replace hK := Lib.hid hK
        replace hM := Lib.hid hM
        rw [HG.out] at j4
        simp [Region.binds] at haf
        have e0 := ((j4 0 (by simp [haf]))).trans E0.out
        replace j4 := Lib.hid j4
        clear haf hfb
        rw [HLIT.out]
        go_simp
        exact hK.out _ _ (RS.next (wv := wv) (vs := vs) 1 (x := .bool true) (by rw [HLIT.out]; simp only [upv, e0, Nat.reduceBEq, cond_true, cond_false]) (by rw [HG.out]; exact j4.out) hM.out (by rw [HG.out]; exact fun _ _ h => h) (by rw [HG.out]; exact E1.out.symm))
      · intro bf ac wv hfb haf hJ K' hK
        obtain ⟨vs, rfl, hM, j4⟩ := hJ
        replace hK := Lib.hid hK
        replace hM := Lib.hid hM
        rw [HG.out] at j4
        simp [Region.binds] at haf
        have e1 := ((j4 1 (by simp [haf]))).trans E1.out
        replace j4 := Lib.hid j4
        clear haf hfb
        rw [HLIT.out]
        go_simp
        exact hK.out _ _ (RS.next (wv := wv) (vs := vs) 2 (x := .bool true) (by rw [HLIT.out]; simp only [upv, e1, Nat.reduceBEq, cond_true, cond_false]) (by rw [HG.out]; exact j4.out) hM.out (by rw [HG.out]; exact fun _ _ h => h) (by rw [HG.out]; exact E2.out.symm))
      · intro bf ac wv hfb haf hJ K' hK
        obtain ⟨vs, rfl, hM, j4⟩ := hJ
        replace hK := Lib.hid hK
        replace hM := Lib.hid hM
        rw [HG.out] at j4
        simp [Region.binds] at haf
        have e2 := ((j4 2 (by simp [haf]))).trans E2.out
        replace j4 := Lib.hid j4
        clear haf hfb
        have xk0 := (HKR.out.step hM.out).c 0 rfl
        have xk1 := (HKR.out.step hM.out).c 1 rfl
        have xk2 := (HKR.out.step hM.out).c 2 rfl
        have xk3 := (HKR.out.step hM.out).c 3 rfl
        have xk4 := (HKR.out.step hM.out).c 4 rfl
        have xkz := (HKR.out.step hM.out).2.2
        rw [HLIT.out]
        go_simp
        exact hK.out _ _ (RS.next (wv := wv) (vs := vs) 3 (x := .agg #[.int .i64 t, .slice a1 16 c1, .int .i64 f, .slice v1 4 d1, .int .i64 dn]) (by rw [HLIT.out]; simp only [upv, e2, Nat.reduceBEq, cond_true, cond_false]) (by rw [HG.out]; exact j4.out) hM.out (by rw [HG.out]; exact fun _ _ h => h) (by rw [HG.out]; exact E3.out.symm))
      · intro bf ac wv hfb haf hJ K' hK
        obtain ⟨vs, rfl, hM, j4⟩ := hJ
        replace hK := Lib.hid hK
        replace hM := Lib.hid hM
        rw [HG.out] at j4
        simp [Region.binds] at haf
        have e2 := ((j4 2 (by simp [haf]))).trans E2.out
        replace j4 := Lib.hid j4
        clear haf hfb
        rw [HLIT.out]
        go_simp
        exact hK.out _ _ (RS.next (wv := wv) (vs := vs) 4 (x := .pointer (some ⟨n, 0, none⟩)) (by rw [HLIT.out]; simp only [upv, e2, Nat.reduceBEq, cond_true, cond_false]) (by rw [HG.out]; exact j4.out) hM.out (by rw [HG.out]; exact fun _ _ h => h) (by rw [HG.out]; exact E4.out.symm))
      · intro bf ac wv hfb haf hJ K' hK
        obtain ⟨vs, rfl, hM, j4⟩ := hJ
        replace hK := Lib.hid hK
        replace hM := Lib.hid hM
        rw [HG.out] at j4
        simp [Region.binds] at haf
        have e2 := ((j4 2 (by simp [haf]))).trans E2.out
        have e4 := ((j4 4 (by simp [haf]))).trans E4.out
        replace j4 := Lib.hid j4
        clear haf hfb
        rw [HLIT.out]
        go_simp
        exact hK.out _ _ (RS.next (wv := wv) (vs := vs) 5 (x := .pointer (some ⟨n, 0, none⟩)) (by rw [HLIT.out]; simp only [upv, e2, e4, Nat.reduceBEq, cond_true, cond_false]) (by rw [HG.out]; exact j4.out) hM.out (by rw [HG.out]; exact fun _ _ h => h) (by rw [HG.out]; exact E5.out.symm))
      · intro bf ac wv hfb haf hJ K' hK
        obtain ⟨vs, rfl, hM, j4⟩ := hJ
        replace hK := Lib.hid hK
        replace hM := Lib.hid hM
        rw [HG.out] at j4
        simp [Region.binds] at haf
        have e2 := ((j4 2 (by simp [haf]))).trans E2.out
        have e5 := ((j4 5 (by simp [haf]))).trans E5.out
        replace j4 := Lib.hid j4
        clear haf hfb
        rw [HLIT.out]
        go_simp
        exact hK.out _ _ (RS.next (wv := wv) (vs := vs) 6 (x := .pointer (some ⟨n, 2, none⟩)) (by rw [HLIT.out]; simp only [upv, e2, e5, Nat.reduceBEq, cond_true, cond_false]) (by rw [HG.out]; exact j4.out) hM.out (by rw [HG.out]; exact fun _ _ h => h) (by rw [HG.out]; exact E6.out.symm))
      · intro bf ac wv hfb haf hJ K' hK
        obtain ⟨vs, rfl, hM, j4⟩ := hJ
        replace hK := Lib.hid hK
        replace hM := Lib.hid hM
        rw [HG.out] at j4
        simp [Region.binds] at haf
        have e2 := ((j4 2 (by simp [haf]))).trans E2.out
        have e6 := ((j4 6 (by simp [haf]))).trans E6.out
        replace j4 := Lib.hid j4
        clear haf hfb
        have xx2 := (H10.out.step hM.out).cs.c 2 rfl
        have xx3 := (H10.out.step hM.out).cs.c 3 rfl
        have xx4 := (H10.out.step hM.out).cs.c 4 rfl
        have xx5 := (H10.out.step hM.out).cs.c 5 rfl
        have xx6 := (H10.out.step hM.out).cs.c 6 rfl
        have xxz := (H10.out.step hM.out).cs.2.2
        rw [HLIT.out]
        go_simp
        exact hK.out _ _ (RS.next (wv := wv) (vs := vs) 7 (x := .agg #[.int .i64 t, .slice ta 16 tc, .int .i64 f, .slice va 4 vc, .int .i64 dn]) (by rw [HLIT.out]; simp only [upv, e2, e6, Nat.reduceBEq, cond_true, cond_false]) (by rw [HG.out]; exact j4.out) hM.out (by rw [HG.out]; exact fun _ _ h => h) (by rw [HG.out]; exact E7.out.symm))
      · intro bf ac wv hfb haf hJ K' hK
        obtain ⟨vs, rfl, hM, j4⟩ := hJ
        replace hK := Lib.hid hK
        replace hM := Lib.hid hM
        rw [HG.out] at j4
        simp [Region.binds] at haf
        have e2 := ((j4 2 (by simp [haf]))).trans E2.out
        have e3 := ((j4 3 (by simp [haf]))).trans E3.out
        have e7 := ((j4 7 (by simp [haf]))).trans E7.out
        replace j4 := Lib.hid j4
        clear haf hfb
        rw [HLIT.out]
        go_simp
        go_at_call 16
        refine (samer_w t f dn L V HAL.out a1 v1 ta va c1 d1 tc vc _ (HRV.out.step hM.out).2.1 (HRV.out.step hM.out).2.2.1 (H10.out.step hM.out).tt (H10.out.step hM.out).vv).mono ?_
        rintro e w4 ⟨rfl, b4⟩
        exact hK.out _ _ (RS.next (wv := wv) (vs := vs) 8 (x := .bool true) (by rw [HLIT.out]; simp only [upv, e2, e3, e7, Nat.reduceBEq, cond_true, cond_false]) (by rw [HG.out]; exact j4.out) (keep2 b4 hM.out) (by rw [HG.out]; exact fun _ _ h => h) (by rw [HG.out]; exact E8.out.symm))
      · intro bf ac wv hfb haf hJ K' hK
        obtain ⟨vs, rfl, hM, j4⟩ := hJ
        replace hK := Lib.hid hK
        replace hM := Lib.hid hM
        rw [HG.out] at j4
        simp [Region.binds] at haf
        have e2 := ((j4 2 (by simp [haf]))).trans E2.out
        have e8 := ((j4 8 (by simp [haf]))).trans E8.out
        replace j4 := Lib.hid j4
        clear haf hfb
        rw [HLIT.out]
        go_simp
        exact hK.out _ _ (RS.next (wv := wv) (vs := vs) 9 (x := .bool true) (by rw [HLIT.out]; simp only [upv, e2, e8, Nat.reduceBEq, cond_true, cond_false]) (by rw [HG.out]; exact j4.out) hM.out (by rw [HG.out]; exact fun _ _ h => h) (by rw [HG.out]; exact E9.out.symm))
      · intro bf ac wv hfb haf hJ K' hK
        obtain ⟨vs, rfl, hM, j4⟩ := hJ
        replace hK := Lib.hid hK
        replace hM := Lib.hid hM
        rw [HG.out] at j4
        simp [Region.binds] at haf
        have e9 := ((j4 9 (by simp [haf]))).trans E9.out
        replace j4 := Lib.hid j4
        clear haf hfb
        rw [HLIT.out]
        go_simp
        exact hK.out _ _ (RS.next (wv := wv) (vs := vs) 10 (x := .bool true) (by rw [HLIT.out]; simp only [upv, e9, Nat.reduceBEq, cond_true, cond_false]) (by rw [HG.out]; exact j4.out) hM.out (by rw [HG.out]; exact fun _ _ h => h) (by rw [HG.out]; exact E10.out.symm))
      · intro bf ac wv hfb haf hJ K' hK
        obtain ⟨vs, rfl, hM, j4⟩ := hJ
        replace hK := Lib.hid hK
        replace hM := Lib.hid hM
        rw [HG.out] at j4
        simp [Region.binds] at haf
        have e10 := ((j4 10 (by simp [haf]))).trans E10.out
        replace j4 := Lib.hid j4
        clear haf hfb
        rw [HLIT.out]
        go_simp
        exact hK.out _ _ (RS.next (wv := wv) (vs := vs) 11 (x := .int .i64 16) (by rw [HLIT.out]; simp only [upv, e10, Nat.reduceBEq, cond_true, cond_false]) (by rw [HG.out]; exact j4.out) hM.out (by rw [HG.out]; exact fun _ _ h => h) (by rw [HG.out]; exact E11.out.symm))
      · intro bf ac wv hfb haf hJ K' hK
        obtain ⟨vs, rfl, hM, j4⟩ := hJ
        replace hK := Lib.hid hK
        replace hM := Lib.hid hM
        rw [HG.out] at j4
        simp [Region.binds] at haf
        have e10 := ((j4 10 (by simp [haf]))).trans E10.out
        have e11 := ((j4 11 (by simp [haf]))).trans E11.out
        replace j4 := Lib.hid j4
        clear haf hfb
        rw [HLIT.out]
        go_simp
        exact hK.out _ _ (RS.next (wv := wv) (vs := vs) 12 (x := .bool false) (by rw [HLIT.out]; simp only [upv, e10, e11, Nat.reduceBEq, cond_true, cond_false]) (by rw [HG.out]; exact j4.out) hM.out (by rw [HG.out]; exact fun _ _ h => h) (by rw [HG.out]; exact E12.out.symm))
      · intro bf ac wv hfb haf hJ K' hK
        obtain ⟨vs, rfl, hM, j4⟩ := hJ
        replace hK := Lib.hid hK
        replace hM := Lib.hid hM
        rw [HG.out] at j4
        simp [Region.binds] at haf
        have e10 := ((j4 10 (by simp [haf]))).trans E10.out
        have e12 := ((j4 12 (by simp [haf]))).trans E12.out
        replace j4 := Lib.hid j4
        clear haf hfb
        rw [HLIT.out]
        go_simp
        exact hK.out _ _ (RS.next (wv := wv) (vs := vs) 13 (x := .bool false) (by rw [HLIT.out]; simp only [upv, e10, e12, Nat.reduceBEq, cond_true, cond_false]) (by rw [HG.out]; exact j4.out) hM.out (by rw [HG.out]; exact fun _ _ h => h) (by rw [HG.out]; exact E13.out.symm))
      · intro bf ac wv hfb haf hJ K' hK
        obtain ⟨vs, rfl, hM, j4⟩ := hJ
        replace hK := Lib.hid hK
        replace hM := Lib.hid hM
        rw [HG.out] at j4
        simp [Region.binds] at haf
        have e13 := ((j4 13 (by simp [haf]))).trans E13.out
        replace j4 := Lib.hid j4
        clear haf hfb
        rw [HLIT.out]
        go_simp
        exact hK.out _ _ (RS.next (wv := wv) (vs := vs) 14 (x := undef) (by rw [HLIT.out]; simp only [upv, e13, Nat.reduceBEq, cond_true, cond_false]) (by rw [HG.out]; exact j4.out) hM.out (by rw [HG.out]; exact fun _ _ h => h) (by rw [HG.out]; exact E14.out.symm))
      · intro bf ac wv hfb haf hJ K' hK
        obtain ⟨vs, rfl, hM, j4⟩ := hJ
        replace hK := Lib.hid hK
        replace hM := Lib.hid hM
        rw [HG.out] at j4
        simp [Region.binds] at haf
        have e13 := ((j4 13 (by simp [haf]))).trans E13.out
        replace j4 := Lib.hid j4
        clear haf hfb
        rw [HLIT.out]
        go_simp
        exact hK.out _ _ (RS.next (wv := wv) (vs := vs) 15 (x := undef) (by rw [HLIT.out]; simp only [upv, e13, Nat.reduceBEq, cond_true, cond_false]) (by rw [HG.out]; exact j4.out) hM.out (by rw [HG.out]; exact fun _ _ h => h) (by rw [HG.out]; exact E15.out.symm))
      · intro bf ac wv hfb haf hJ K' hK
        obtain ⟨vs, rfl, hM, j4⟩ := hJ
        replace hK := Lib.hid hK
        replace hM := Lib.hid hM
        rw [HG.out] at j4
        simp [Region.binds] at haf
        have e13 := ((j4 13 (by simp [haf]))).trans E13.out
        replace j4 := Lib.hid j4
        clear haf hfb
        rw [HLIT.out]
        go_simp
        exact hK.out _ _ (RS.next (wv := wv) (vs := vs) 16 (x := undef) (by rw [HLIT.out]; simp only [upv, e13, Nat.reduceBEq, cond_true, cond_false]) (by rw [HG.out]; exact j4.out) hM.out (by rw [HG.out]; exact fun _ _ h => h) (by rw [HG.out]; exact E16.out.symm))
      · intro bf ac wv hfb haf hJ K' hK
        obtain ⟨vs, rfl, hM, j4⟩ := hJ
        replace hK := Lib.hid hK
        replace hM := Lib.hid hM
        rw [HG.out] at j4
        simp [Region.binds] at haf
        have e13 := ((j4 13 (by simp [haf]))).trans E13.out
        replace j4 := Lib.hid j4
        clear haf hfb
        rw [HLIT.out]
        go_simp
        exact hK.out _ _ (RS.next (wv := wv) (vs := vs) 17 (x := undef) (by rw [HLIT.out]; simp only [upv, e13, Nat.reduceBEq, cond_true, cond_false]) (by rw [HG.out]; exact j4.out) hM.out (by rw [HG.out]; exact fun _ _ h => h) (by rw [HG.out]; exact E17.out.symm))
      · intro bf ac wv hfb haf hJ K' hK
        obtain ⟨vs, rfl, hM, j4⟩ := hJ
        replace hK := Lib.hid hK
        replace hM := Lib.hid hM
        rw [HG.out] at j4
        simp [Region.binds] at haf
        have e13 := ((j4 13 (by simp [haf]))).trans E13.out
        replace j4 := Lib.hid j4
        clear haf hfb
        rw [HLIT.out]
        go_simp
        exact hK.out _ _ (RS.next (wv := wv) (vs := vs) 18 (x := undef) (by rw [HLIT.out]; simp only [upv, e13, Nat.reduceBEq, cond_true, cond_false]) (by rw [HG.out]; exact j4.out) hM.out (by rw [HG.out]; exact fun _ _ h => h) (by rw [HG.out]; exact E18.out.symm))
      · intro bf ac wv hfb haf hJ K' hK
        obtain ⟨vs, rfl, hM, j4⟩ := hJ
        replace hK := Lib.hid hK
        replace hM := Lib.hid hM
        rw [HG.out] at j4
        simp [Region.binds] at haf
        have e13 := ((j4 13 (by simp [haf]))).trans E13.out
        replace j4 := Lib.hid j4
        clear haf hfb
        rw [HLIT.out]
        go_simp
        exact hK.out _ _ (RS.next (wv := wv) (vs := vs) 19 (x := undef) (by rw [HLIT.out]; simp only [upv, e13, Nat.reduceBEq, cond_true, cond_false]) (by rw [HG.out]; exact j4.out) hM.out (by rw [HG.out]; exact fun _ _ h => h) (by rw [HG.out]; exact E19.out.symm))
      · intro bf ac wv hfb haf hJ K' hK
        obtain ⟨vs, rfl, hM, j4⟩ := hJ
        replace hK := Lib.hid hK
        replace hM := Lib.hid hM
        rw [HG.out] at j4
        simp [Region.binds] at haf
        have e13 := ((j4 13 (by simp [haf]))).trans E13.out
        replace j4 := Lib.hid j4
        clear haf hfb
        rw [HLIT.out]
        go_simp
        exact hK.out _ _ (RS.next (wv := wv) (vs := vs) 20 (x := undef) (by rw [HLIT.out]; simp only [upv, e13, Nat.reduceBEq, cond_true, cond_false]) (by rw [HG.out]; exact j4.out) hM.out (by rw [HG.out]; exact fun _ _ h => h) (by rw [HG.out]; exact E20.out.symm))
      · intro bf ac wv hfb haf hJ K' hK
        obtain ⟨vs, rfl, hM, j4⟩ := hJ
        replace hK := Lib.hid hK
        replace hM := Lib.hid hM
        rw [HG.out] at j4
        simp [Region.binds] at haf
        have e13 := ((j4 13 (by simp [haf]))).trans E13.out
        replace j4 := Lib.hid j4
        clear haf hfb
        rw [HLIT.out]
        go_simp
        exact hK.out _ _ (RS.next (wv := wv) (vs := vs) 21 (x := undef) (by rw [HLIT.out]; simp only [upv, e13, Nat.reduceBEq, cond_true, cond_false]) (by rw [HG.out]; exact j4.out) hM.out (by rw [HG.out]; exact fun _ _ h => h) (by rw [HG.out]; exact E21.out.symm))
      · intro bf ac wv hfb haf hJ K' hK
        obtain ⟨vs, rfl, hM, j4⟩ := hJ
        replace hK := Lib.hid hK
        replace hM := Lib.hid hM
        rw [HG.out] at j4
        simp [Region.binds] at haf
        have e10 := ((j4 10 (by simp [haf]))).trans E10.out
        have e13 := ((j4 13 (by simp [haf]))).trans E13.out
        replace j4 := Lib.hid j4
        clear haf hfb
        rw [HLIT.out]
        go_simp
        exact hK.out _ _ (RS.next (wv := wv) (vs := vs) 22 (x := .bool false) (by rw [HLIT.out]; simp only [upv, e10, e13, Nat.reduceBEq, cond_true, cond_false]) (by rw [HG.out]; exact j4.out) hM.out (by rw [HG.out]; exact fun _ _ h => h) (by rw [HG.out]; exact E22.out.symm))
      · intro bf ac wv hfb haf hJ K' hK
        obtain ⟨vs, rfl, hM, j4⟩ := hJ
        replace hK := Lib.hid hK
        replace hM := Lib.hid hM
        rw [HG.out] at j4
        simp [Region.binds] at haf
        have e10 := ((j4 10 (by simp [haf]))).trans E10.out
        have e22 := ((j4 22 (by simp [haf]))).trans E22.out
        replace j4 := Lib.hid j4
        clear haf hfb
        rw [HLIT.out]
        go_simp
        exact hK.out _ _ (RS.next (wv := wv) (vs := vs) 23 (x := .bool false) (by rw [HLIT.out]; simp only [upv, e10, e22, Nat.reduceBEq, cond_true, cond_false]) (by rw [HG.out]; exact j4.out) hM.out (by rw [HG.out]; exact fun _ _ h => h) (by rw [HG.out]; exact E23.out.symm))
      · intro bf ac wv hfb haf hJ K' hK
        obtain ⟨vs, rfl, hM, j4⟩ := hJ
        replace hK := Lib.hid hK
        replace hM := Lib.hid hM
        rw [HG.out] at j4
        simp [Region.binds] at haf
        have e23 := ((j4 23 (by simp [haf]))).trans E23.out
        replace j4 := Lib.hid j4
        clear haf hfb
        rw [HLIT.out]
        go_simp
        exact hK.out _ _ (RS.next (wv := wv) (vs := vs) 24 (x := .int .i64 16) (by rw [HLIT.out]; simp only [upv, e23, Nat.reduceBEq, cond_true, cond_false]) (by rw [HG.out]; exact j4.out) hM.out (by rw [HG.out]; exact fun _ _ h => h) (by rw [HG.out]; exact E24.out.symm))
      · intro bf ac wv hfb haf hJ K' hK
        obtain ⟨vs, rfl, hM, j4⟩ := hJ
        replace hK := Lib.hid hK
        replace hM := Lib.hid hM
        rw [HG.out] at j4
        simp [Region.binds] at haf
        have e23 := ((j4 23 (by simp [haf]))).trans E23.out
        have e24 := ((j4 24 (by simp [haf]))).trans E24.out
        replace j4 := Lib.hid j4
        clear haf hfb
        rw [HLIT.out]
        go_simp
        exact hK.out _ _ (RS.next (wv := wv) (vs := vs) 25 (x := .bool true) (by rw [HLIT.out]; simp only [upv, e23, e24, Nat.reduceBEq, cond_true, cond_false]) (by rw [HG.out]; exact j4.out) hM.out (by rw [HG.out]; exact fun _ _ h => h) (by rw [HG.out]; exact E25.out.symm))
      · intro bf ac wv hfb haf hJ K' hK
        obtain ⟨vs, rfl, hM, j4⟩ := hJ
        replace hK := Lib.hid hK
        replace hM := Lib.hid hM
        rw [HG.out] at j4
        simp [Region.binds] at haf
        have e23 := ((j4 23 (by simp [haf]))).trans E23.out
        have e25 := ((j4 25 (by simp [haf]))).trans E25.out
        replace j4 := Lib.hid j4
        clear haf hfb
        rw [HLIT.out]
        go_simp
        exact hK.out _ _ (RS.next (wv := wv) (vs := vs) 26 (x := .bool true) (by rw [HLIT.out]; simp only [upv, e23, e25, Nat.reduceBEq, cond_true, cond_false]) (by rw [HG.out]; exact j4.out) hM.out (by rw [HG.out]; exact fun _ _ h => h) (by rw [HG.out]; exact E26.out.symm))
      · intro bf ac wv hfb haf hJ K' hK
        obtain ⟨vs, rfl, hM, j4⟩ := hJ
        replace hK := Lib.hid hK
        replace hM := Lib.hid hM
        rw [HG.out] at j4
        simp [Region.binds] at haf
        have e26 := ((j4 26 (by simp [haf]))).trans E26.out
        replace j4 := Lib.hid j4
        clear haf hfb
        rw [HLIT.out]
        go_simp
        exact hK.out _ _ (RS.next (wv := wv) (vs := vs) 27 (x := .bool false) (by rw [HLIT.out]; simp only [upv, e26, Nat.reduceBEq, cond_true, cond_false]) (by rw [HG.out]; exact j4.out) hM.out (by rw [HG.out]; exact fun _ _ h => h) (by rw [HG.out]; exact E27.out.symm))
      · intro bf ac wv hfb haf hJ K' hK
        obtain ⟨vs, rfl, hM, j4⟩ := hJ
        replace hK := Lib.hid hK
        replace hM := Lib.hid hM
        rw [HG.out] at j4
        simp [Region.binds] at haf
        have e26 := ((j4 26 (by simp [haf]))).trans E26.out
        have e27 := ((j4 27 (by simp [haf]))).trans E27.out
        replace j4 := Lib.hid j4
        clear haf hfb
        rw [HLIT.out]
        go_simp
        exact hK.out _ _ (RS.next (wv := wv) (vs := vs) 28 (x := .bool true) (by rw [HLIT.out]; simp only [upv, e26, e27, Nat.reduceBEq, cond_true, cond_false]) (by rw [HG.out]; exact j4.out) hM.out (by rw [HG.out]; exact fun _ _ h => h) (by rw [HG.out]; exact E28.out.symm))
      · intro bf ac wv hfb haf hJ K' hK
        obtain ⟨vs, rfl, hM, j4⟩ := hJ
        replace hK := Lib.hid hK
        replace hM := Lib.hid hM
        rw [HG.out] at j4
        simp [Region.binds] at haf
        have e23 := ((j4 23 (by simp [haf]))).trans E23.out
        have e26 := ((j4 26 (by simp [haf]))).trans E26.out
        have e28 := ((j4 28 (by simp [haf]))).trans E28.out
        replace j4 := Lib.hid j4
        clear haf hfb
        rw [HLIT.out]
        go_simp
        exact hK.out _ _ (RS.next (wv := wv) (vs := vs) 29 (x := .bool true) (by rw [HLIT.out]; simp only [upv, e23, e26, e28, Nat.reduceBEq, cond_true, cond_false]) (by rw [HG.out]; exact j4.out) hM.out (by rw [HG.out]; exact fun _ _ h => h) (by rw [HG.out]; exact E29.out.symm))
      · intro bf ac wv hfb haf hJ K' hK
        obtain ⟨vs, rfl, hM, j4⟩ := hJ
        replace hK := Lib.hid hK
        replace hM := Lib.hid hM
        rw [HG.out] at j4
        simp [Region.binds] at haf
        have e10 := ((j4 10 (by simp [haf]))).trans E10.out
        have e23 := ((j4 23 (by simp [haf]))).trans E23.out
        have e29 := ((j4 29 (by simp [haf]))).trans E29.out
        replace j4 := Lib.hid j4
        clear haf hfb
        rw [HLIT.out]
        go_simp
        exact hK.out _ _ (RS.next (wv := wv) (vs := vs) 30 (x := .bool true) (by rw [HLIT.out]; simp only [upv, e10, e23, e29, Nat.reduceBEq, cond_true, cond_false]) (by rw [HG.out]; exact j4.out) hM.out (by rw [HG.out]; exact fun _ _ h => h) (by rw [HG.out]; exact E30.out.symm))
      · intro bf ac wv hfb haf hJ K' hK
        obtain ⟨vs, rfl, hM, j4⟩ := hJ
        replace hK := Lib.hid hK
        replace hM := Lib.hid hM
        rw [HG.out] at j4
        simp [Region.binds] at haf
        have e10 := ((j4 10 (by simp [haf]))).trans E10.out
        have e30 := ((j4 30 (by simp [haf]))).trans E30.out
        replace j4 := Lib.hid j4
        clear haf hfb
        rw [HLIT.out]
        go_simp
        exact hK.out _ _ (RS.next (wv := wv) (vs := vs) 31 (x := .bool true) (by rw [HLIT.out]; simp only [upv, e10, e30, Nat.reduceBEq, cond_true, cond_false]) (by rw [HG.out]; exact j4.out) hM.out (by rw [HG.out]; exact fun _ _ h => h) (by rw [HG.out]; exact E31.out.symm))
      · intro bf ac wv hfb haf hJ K' hK
        obtain ⟨vs, rfl, hM, j4⟩ := hJ
        replace hK := Lib.hid hK
        replace hM := Lib.hid hM
        rw [HG.out] at j4
        simp [Region.binds] at haf
        have e31 := ((j4 31 (by simp [haf]))).trans E31.out
        replace j4 := Lib.hid j4
        clear haf hfb
        rw [HLIT.out]
        go_simp
        exact hK.out _ _ (RS.next (wv := wv) (vs := vs) 32 (x := .bool true) (by rw [HLIT.out]; simp only [upv, e31, Nat.reduceBEq, cond_true, cond_false]) (by rw [HG.out]; exact j4.out) hM.out (by rw [HG.out]; exact fun _ _ h => h) (by rw [HG.out]; exact E32.out.symm))
    · intro bf ac wv hall hJ
      obtain ⟨vs, rfl, hM, j4⟩ := hJ
      rw [HG.out] at j4
      have hlast := ((j4 32 (hall 32 (by decide)))).trans E32.out
      clear j4 hall
      rw [HLIT.out]
      dsimp only
      rw [hlast]
      clear hlast
      have H13 := Lib.hid (H10.out.step hM)
      have H14 := Lib.hid (H11.out.step hM)
      have H15 := Lib.hid (H12.out.step hM HLE.out)
      have H16 := Lib.hid (HKR.out.step hM)
      clear H10 H11 H12 HKR
      replace HLE := Lib.hid (H13.out.le)
      go_wp2
      go_ret
      exact ⟨rfl, ⟨_, _, _, _, _, _, _, _, _, H13.out, fun _ _ h => h⟩, H15.out⟩
set_option maxRecDepth 100000 in
set_option maxHeartbeats 8000000 in
theorem arrive_low {base n : Nat} {pa ta va aa da : Option Addr} {pc tc vc ac dc : Nat} {nx : Int} {P : List Od} {t : Int} {L : List Bool} {f : Int} {V : List Int} {dn : Int} {A D : List Od} {a b c d : Int} {w : World} (h : WdA base n pa ta va aa da pc tc vc ac dc nx P t L f V dn A D w) (cf : Bool) (hrw : RW t L f V dn a b c d t L f V dn false 23) {pb : Bool} (hpb : (P.any fun x => x.a == a) = pb) (hbf : b < f) :
    Calls Try.prog 22 #[.pointer (some ⟨n, 0, none⟩), .agg #[.int .i64 a, .int .i64 b, .int .i64 c, .int .i64 d], .bool cf] w fun e w' => e = .returned (.bool true) ∧ WdQ base n aa da w.heap.size nx P t L f V dn A D w' ∧ FB base n da w w' := by
  have H1 := Lib.hid (h.step (al w (.cells #[.int .i64 a, .int .i64 b, .int .i64 c, .int .i64 d] 32)))
  have H2 := Lib.hid (Cs.new w w.heap.size #[.int .i64 a, .int .i64 b, .int .i64 c, .int .i64 d] 32 rfl)
  have HLE := Lib.hid (h.le)
  have H3 := Lib.hid ((FB.refl base n da w).step (al w (.cells #[.int .i64 a, .int .i64 b, .int .i64 c, .int .i64 d] 32)) HLE.out)
  replace HLE := Lib.hid (H1.out.le)
  have HNW := Lib.hid h.cs.2.2
  have HON := Lib.hid (show some w.heap.size ≠ some n from fun q => by have h1 := HNW.out; simp at q; omega)
  have HOD := Lib.hid (show nb da w.heap.size from fun g o q => by have h1 := row_ltN h.dl (Nat.le_refl _) g o q; omega)
  have HPB := Lib.hid hpb
  clear hpb
  have HRW := Lib.hid hrw
  have HAL := Lib.hid (show (L : List Bool).length = 16 from bos_len h.tt)
  clear hrw
  have HBF := Lib.hid hbf
  have gb1 : decide (b < f) = true := decide_eq_true hbf
  clear hbf
  clear h
  go_enter Try.func22, Try.ntmps22
  go_upto_region 1 with fail
  obtain ⟨wq, hwq⟩ : ∃ z, w.alloc (.cells #[.int .i64 a, .int .i64 b, .int .i64 c, .int .i64 d] 32) = z := ⟨_, rfl⟩
  rw [hwq] at H1 H2 H3 HLE ⊢
  clear hwq
  have xw0 := H1.out.cs.c 0 rfl
  have xw1 := H1.out.cs.c 1 rfl
  have xwz := H1.out.cs.2.2
  have xo0 := H2.out.c 0 rfl
  have xoz := H2.out.2.2
  go_still_tail 7, (by kernel_rfl)
  change wpList _ _ _ _ _ wq.drew
  obtain ⟨w2, hw2⟩ : ∃ z, wq.drew = z := ⟨_, rfl⟩
  have b0 : Below wq.heap.size wq w2 := by rw [← hw2]; exact below_drew _ _
  rw [hw2]
  clear hw2
  clear xw0 xw1 xwz xo0 xoz
  have H4 := Lib.hid (H1.out.step b0)
  have H5 := Lib.hid (H2.out.step b0)
  have H6 := Lib.hid (H3.out.step b0 HLE.out)
  clear H1 H2 H3
  replace HLE := Lib.hid (H4.out.le)
  clear b0
  go_wp2_with fail
  refine (has_any (.slice pa P.length pc) P a _ H4.out.pp).mono ?_
  rintro e w3 ⟨rfl, b3⟩
  have H7 := Lib.hid (H4.out.step b3)
  have H8 := Lib.hid (H5.out.step b3)
  have H9 := Lib.hid (H6.out.step b3 HLE.out)
  clear H4 H5 H6
  replace HLE := Lib.hid (H7.out.le)
  clear b3
  rw [HPB.out]
  go_upto_region 2 with fail
  go_cut [8, 9, 10] from 19 to 28 (fun p1 p2 p3 wc => ∃ (k c1 d1 : Nat) (a1 v1 : Option Addr), p1 = .pointer (some ⟨k, 0, none⟩) ∧ p2 = .bool false ∧ p3 = .int .i64 23 ∧ w3.heap.size ≤ k ∧ Cs wc k #[.int .i64 t, .slice a1 16 c1, .int .i64 f, .slice v1 4 d1, .int .i64 dn] ∧ RvS w3.heap.size L V c1 d1 a1 v1 wc ∧ Below w3.heap.size w3 wc)
  case first =>
    obtain ⟨lit, hlit⟩ : ∃ lit : (Nat → Value) → Act, lit = fun vs => { tmps := List.toArray (Value.pointer (some { block := n, off := 0 }) :: Value.agg #[Value.int IntKind.i64 a, Value.int IntKind.i64 b, Value.int IntKind.i64 c, Value.int IntKind.i64 d] :: Value.bool cf :: undef :: Value.pointer (some { block := w.heap.size, off := 0 }) :: undef :: Value.bool false :: Value.bool pb :: vs 10 :: vs 12 :: vs 13 :: Value.pointer (some { block := n, off := 0 }) :: Value.pointer (some { block := n, off := 0 }) :: Value.pointer (some { block := n, off := 0 }) :: Value.pointer (some { block := n, off := 1 }) :: Value.slice pa P.length pc :: Value.pointer (some { block := w.heap.size, off := 0 }) :: Value.int IntKind.i64 a :: Value.bool pb :: vs 6 :: vs 0 :: vs 1 :: vs 2 :: vs 3 :: vs 4 :: vs 5 :: vs 7 :: vs 8 :: vs 9 :: undef :: undef :: undef :: undef :: undef :: undef :: undef :: undef :: undef :: undef :: undef :: undef :: undef :: undef :: undef :: undef :: undef :: undef :: undef :: undef :: undef :: undef :: undef :: undef :: undef :: undef :: undef :: undef :: undef :: undef :: undef :: undef :: undef :: undef :: undef :: undef :: undef :: undef :: undef :: undef :: undef :: undef :: undef :: undef :: undef :: undef :: undef :: undef :: undef :: undef :: undef :: undef :: undef :: undef :: undef :: undef :: undef :: undef :: undef :: undef :: undef :: undef :: undef :: undef :: undef :: undef :: undef :: undef :: undef :: undef :: undef :: undef :: undef :: undef :: undef :: undef :: undef :: undef :: undef :: undef :: undef :: undef :: undef :: undef :: undef :: undef :: undef :: undef :: undef :: undef :: undef :: undef :: undef :: undef :: undef :: undef :: undef :: undef :: undef :: undef :: undef :: undef :: undef :: undef :: undef :: undef :: undef :: undef :: undef :: undef :: undef :: undef :: undef :: undef :: []), defers := [] } := ⟨_, rfl⟩
    have HLIT := Lib.hid hlit
    clear hlit
    obtain ⟨val, hval⟩ : ∃ val : List Value, val = [.pointer (some ⟨n, 0, none⟩), .pointer (some ⟨n, 0, none⟩), .pointer (some ⟨n, 2, none⟩), .agg #[.int .i64 t, .slice ta 16 tc, .int .i64 f, .slice va 4 vc, .int .i64 dn], .agg #[.int .i64 a, .int .i64 b, .int .i64 c, .int .i64 d], undef, undef, undef, .bool false, .int .i64 23, undef, undef, .bool false, .int .i64 23] := ⟨_, rfl⟩
    have E0 := Lib.hid (show val.getD 0 undef = .pointer (some ⟨n, 0, none⟩) by rw [hval]; rfl)
    have E1 := Lib.hid (show val.getD 1 undef = .pointer (some ⟨n, 0, none⟩) by rw [hval]; rfl)
    have E2 := Lib.hid (show val.getD 2 undef = .pointer (some ⟨n, 2, none⟩) by rw [hval]; rfl)
    have E3 := Lib.hid (show val.getD 3 undef = .agg #[.int .i64 t, .slice ta 16 tc, .int .i64 f, .slice va 4 vc, .int .i64 dn] by rw [hval]; rfl)
    have E4 := Lib.hid (show val.getD 4 undef = .agg #[.int .i64 a, .int .i64 b, .int .i64 c, .int .i64 d] by rw [hval]; rfl)
    have E8 := Lib.hid (show val.getD 8 undef = .bool false by rw [hval]; rfl)
    have E9 := Lib.hid (show val.getD 9 undef = .int .i64 23 by rw [hval]; rfl)
    have E12 := Lib.hid (show val.getD 12 undef = .bool false by rw [hval]; rfl)
    have E13 := Lib.hid (show val.getD 13 undef = .int .i64 23 by rw [hval]; rfl)
    clear hval
    obtain ⟨G, hG0⟩ : ∃ G : Bool → Nat → Value → World → Prop, G = (fun bq iq vq ww => (iq = 5 → Qvt w3.heap.size t L f V dn false 23 bq vq ww) ∧ (iq = 6 → Qvt w3.heap.size t L f V dn false 23 bq vq ww) ∧ (iq = 7 → Qva w3.heap.size t L f V dn bq vq ww) ∧ (iq = 10 → Qvk w3.heap.size t L f V dn bq vq ww) ∧ (iq ≠ 5 → iq ≠ 6 → iq ≠ 7 → iq ≠ 10 → iq ≠ 11 → vq = val.getD iq undef)) := ⟨_, rfl⟩
    have HG := Lib.hid hG0
    clear hG0
    refine region_inv (NS lit 11 (fun p q => (p == 11 && q == 3) || (p == 11 && q == 4) || (p == 11 && q == 5) || (p == 11 && q == 10)) G fun bq wv => (bq = false → Below w3.heap.size w3 wv) ∧ (bq = true → Below w3.heap.size w3 wv)) (by kernel_rfl) (by decide +kernel) ?_ ?_ ?_
    · exact NS.start (fun i => ([undef, undef, undef, undef, undef, undef, undef, undef, undef, undef, undef, undef, undef, undef] : List Value).getD i undef) (by rw [HLIT.out]; rfl) ⟨fun _ => below_drew _ _, fun h => (by cases h)⟩
    · refine ⟨?_, ?_, ?_, ?_, ?_, ?_, ?_, ?_, ?_, ?_, ?_, ?_, ?_, ?_, trivial⟩
      · intro bf ac wv hfb haf hJ K' hK
        obtain ⟨vs, rfl, ja, hB, j4⟩ := hJ
        replace hK := Lib.hid hK
        rw [HG.out] at j4
        replace j4 := Lib.hid (And.intro ja j4)
        replace hB := Lib.hid hB
        clear ja haf
        rw [HLIT.out]
        go_simp
        exact hK.out _ _ (NS.next (vs := vs) 0 (by omega) (fun q h => absurd h (by simp)) (x := .pointer (some ⟨n, 0, none⟩)) (by rw [HLIT.out]; rfl) (by rw [HG.out]; exact j4.out) hB.out (by rw [HG.out]; exact fun _ _ h => h) (by rw [HG.out]; exact ⟨fun h => absurd h (by decide), fun h => absurd h (by decide), fun h => absurd h (by decide), fun h => absurd h (by decide), fun _ _ _ _ _ => E0.out.symm⟩))
      · intro bf ac wv hfb haf hJ K' hK
        obtain ⟨vs, rfl, ja, hB, j4⟩ := hJ
        replace hK := Lib.hid hK
        simp [Region.binds] at haf
        rw [HG.out] at j4
        have e0 := ((j4 0 (by simp [haf])).2.2.2.2 (by decide) (by decide) (by decide) (by decide) (by decide)).trans E0.out
        replace j4 := Lib.hid (And.intro ja j4)
        replace hB := Lib.hid hB
        clear ja haf
        rw [HLIT.out]
        go_simp
        exact hK.out _ _ (NS.next (vs := vs) 1 (by omega) (fun q h => absurd h (by simp)) (x := .pointer (some ⟨n, 0, none⟩)) (by rw [HLIT.out]; simp only [upv, e0, Nat.reduceBEq, cond_true, cond_false]) (by rw [HG.out]; exact j4.out) hB.out (by rw [HG.out]; exact fun _ _ h => h) (by rw [HG.out]; exact ⟨fun h => absurd h (by decide), fun h => absurd h (by decide), fun h => absurd h (by decide), fun h => absurd h (by decide), fun _ _ _ _ _ => E1.out.symm⟩))
      · intro bf ac wv hfb haf hJ K' hK
        obtain ⟨vs, rfl, ja, hB, j4⟩ := hJ
        replace hK := Lib.hid hK
        simp [Region.binds] at haf
        rw [HG.out] at j4
        have e1 := ((j4 1 (by simp [haf])).2.2.2.2 (by decide) (by decide) (by decide) (by decide) (by decide)).trans E1.out
        replace j4 := Lib.hid (And.intro ja j4)
        replace hB := Lib.hid hB
        clear ja haf
        rw [HLIT.out]
        go_simp
        exact hK.out _ _ (NS.next (vs := vs) 2 (by omega) (fun q h => absurd h (by simp)) (x := .pointer (some ⟨n, 2, none⟩)) (by rw [HLIT.out]; simp only [upv, e1, Nat.reduceBEq, cond_true, cond_false]) (by rw [HG.out]; exact j4.out) hB.out (by rw [HG.out]; exact fun _ _ h => h) (by rw [HG.out]; exact ⟨fun h => absurd h (by decide), fun h => absurd h (by decide), fun h => absurd h (by decide), fun h => absurd h (by decide), fun _ _ _ _ _ => E2.out.symm⟩))
      · intro bf ac wv hfb haf hJ K' hK
        obtain ⟨vs, rfl, ja, hB, j4⟩ := hJ
        replace hK := Lib.hid hK
        simp [Region.binds] at haf
        rw [HG.out] at j4
        have e2 := ((j4 2 (by simp [haf])).2.2.2.2 (by decide) (by decide) (by decide) (by decide) (by decide)).trans E2.out
        have hd : bf 11 = false := by
          cases h : bf 11
          · rfl
          · exact absurd ((ja 11 3 rfl h).symm.trans hfb) (by simp)
        have hM := Lib.hid (hB.1 hd)
        replace j4 := Lib.hid (And.intro ja j4)
        replace hB := Lib.hid hB
        clear ja haf
        have xx2 := (H7.out.step hM.out).cs.c 2 rfl
        have xx3 := (H7.out.step hM.out).cs.c 3 rfl
        have xx4 := (H7.out.step hM.out).cs.c 4 rfl
        have xx5 := (H7.out.step hM.out).cs.c 5 rfl
        have xx6 := (H7.out.step hM.out).cs.c 6 rfl
        have xxz := (H7.out.step hM.out).cs.2.2
        rw [HLIT.out]
        go_simp
        exact hK.out _ _ (NS.next (vs := vs) 3 (by omega) (fun q h => absurd h (by simp)) (x := .agg #[.int .i64 t, .slice ta 16 tc, .int .i64 f, .slice va 4 vc, .int .i64 dn]) (by rw [HLIT.out]; simp only [upv, e2, Nat.reduceBEq, cond_true, cond_false]) (by rw [HG.out]; exact j4.out) hB.out (by rw [HG.out]; exact fun _ _ h => h) (by rw [HG.out]; exact ⟨fun h => absurd h (by decide), fun h => absurd h (by decide), fun h => absurd h (by decide), fun h => absurd h (by decide), fun _ _ _ _ _ => E3.out.symm⟩))
      · intro bf ac wv hfb haf hJ K' hK
        obtain ⟨vs, rfl, ja, hB, j4⟩ := hJ
        replace hK := Lib.hid hK
        rw [HG.out] at j4
        have hd : bf 11 = false := by
          cases h : bf 11
          · rfl
          · exact absurd ((ja 11 4 rfl h).symm.trans hfb) (by simp)
        have hM := Lib.hid (hB.1 hd)
        replace j4 := Lib.hid (And.intro ja j4)
        replace hB := Lib.hid hB
        clear ja haf
        have xp0 := (H8.out.step hM.out).c 0 rfl
        have xp1 := (H8.out.step hM.out).c 1 rfl
        have xp2 := (H8.out.step hM.out).c 2 rfl
        have xp3 := (H8.out.step hM.out).c 3 rfl
        have xpz := (H8.out.step hM.out).2.2
        rw [HLIT.out]
        go_simp
        exact hK.out _ _ (NS.next (vs := vs) 4 (by omega) (fun q h => absurd h (by simp)) (x := .agg #[.int .i64 a, .int .i64 b, .int .i64 c, .int .i64 d]) (by rw [HLIT.out]; rfl) (by rw [HG.out]; exact j4.out) hB.out (by rw [HG.out]; exact fun _ _ h => h) (by rw [HG.out]; exact ⟨fun h => absurd h (by decide), fun h => absurd h (by decide), fun h => absurd h (by decide), fun h => absurd h (by decide), fun _ _ _ _ _ => E4.out.symm⟩))
      · intro bf ac wv hfb haf hJ K' hK
        obtain ⟨vs, rfl, ja, hB, j4⟩ := hJ
        replace hK := Lib.hid hK
        simp [Region.binds] at haf
        rw [HG.out] at j4
        have e3 := ((j4 3 (by simp [haf])).2.2.2.2 (by decide) (by decide) (by decide) (by decide) (by decide)).trans E3.out
        have e4 := ((j4 4 (by simp [haf])).2.2.2.2 (by decide) (by decide) (by decide) (by decide) (by decide)).trans E4.out
        have hd : bf 11 = false := by
          cases h : bf 11
          · rfl
          · exact absurd ((ja 11 5 rfl h).symm.trans hfb) (by simp)
        have hM := Lib.hid (hB.1 hd)
        replace j4 := Lib.hid (And.intro ja j4)
        replace hB := Lib.hid hB
        clear ja haf
        rw [HLIT.out]
        go_simp
        go_at_call 13
        refine (rcv_w HRW.out HAL.out _ _ _ (H7.out.step hM.out).tt (H7.out.step hM.out).vv (bos_len H7.out.tt) (ints_len H7.out.vv)).mono ?_
        rintro e w4 ⟨⟨c1, d1, a1, v1, rfl, hr⟩, b4⟩
        exact hK.out _ _ (NS.next (vs := vs) 5 (by omega) (fun q h => absurd h (by simp)) (x := (.tuple #[.agg #[.int .i64 t, .slice a1 16 c1, .int .i64 f, .slice v1 4 d1, .int .i64 dn], .bool false, .int .i64 23])) (by rw [HLIT.out]; simp only [upv, e3, e4, Nat.reduceBEq, cond_true, cond_false]) (by rw [HG.out]; exact j4.out) ⟨fun _ => keep2 b4 hM.out, fun e => absurd (e.symm.trans hd) (by simp)⟩ (by rw [HG.out]; exact fun k hbk h => ⟨fun q => (h.1 q).step b4, fun q => (h.2.1 q).step b4, fun q => (h.2.2.1 q).step b4, fun q => (h.2.2.2.1 q).step b4, h.2.2.2.2⟩) (by rw [HG.out]; exact ⟨fun _ => ⟨c1, d1, a1, v1, rfl, fun _ => ⟨hr.1, hr.2.1, hr.2.2.1, fun g o e => Nat.le_trans hM.out.size (hr.2.2.2.1 g o e), fun g o e => Nat.le_trans hM.out.size (hr.2.2.2.2 g o e)⟩⟩, fun h => absurd h (by decide), fun h => absurd h (by decide), fun h => absurd h (by decide), fun h5 => absurd rfl h5⟩))
      · intro bf ac wv hfb haf hJ K' hK
        obtain ⟨vs, rfl, ja, hB, j4⟩ := hJ
        replace hK := Lib.hid hK
        simp [Region.binds] at haf
        rw [HG.out] at j4
        have e5 := (j4 5 (by simp [haf])).1 rfl
        replace j4 := Lib.hid (And.intro ja j4)
        replace hB := Lib.hid hB
        clear ja haf
        obtain ⟨c1, d1, a1, v1, e5, hr⟩ := e5
        rw [HLIT.out]
        go_simp
        exact hK.out _ _ (NS.next (vs := vs) 6 (by omega) (fun q h => absurd h (by simp)) (x := (.tuple #[.agg #[.int .i64 t, .slice a1 16 c1, .int .i64 f, .slice v1 4 d1, .int .i64 dn], .bool false, .int .i64 23])) (by rw [HLIT.out]; simp only [upv, e5, Nat.reduceBEq, cond_true, cond_false]) (by rw [HG.out]; exact j4.out) hB.out (by rw [HG.out]; exact fun _ _ h => h) (by rw [HG.out]; exact ⟨fun h => absurd h (by decide), fun _ => ⟨c1, d1, a1, v1, rfl, hr⟩, fun h => absurd h (by decide), fun h => absurd h (by decide), fun h5 h6 => absurd rfl h6⟩))
      · intro bf ac wv hfb haf hJ K' hK
        obtain ⟨vs, rfl, ja, hB, j4⟩ := hJ
        replace hK := Lib.hid hK
        simp [Region.binds] at haf
        rw [HG.out] at j4
        have e6 := (j4 6 (by simp [haf])).2.1 rfl
        replace j4 := Lib.hid (And.intro ja j4)
        replace hB := Lib.hid hB
        clear ja haf
        obtain ⟨c1, d1, a1, v1, e6, hr⟩ := e6
        rw [HLIT.out]
        go_simp
        exact hK.out _ _ (NS.next (vs := vs) 7 (by omega) (fun q h => absurd h (by simp)) (x := (.agg #[.int .i64 t, .slice a1 16 c1, .int .i64 f, .slice v1 4 d1, .int .i64 dn])) (by rw [HLIT.out]; simp only [upv, e6, Nat.reduceBEq, cond_true, cond_false]) (by rw [HG.out]; exact j4.out) hB.out (by rw [HG.out]; exact fun _ _ h => h) (by rw [HG.out]; exact ⟨fun h => absurd h (by decide), fun h => absurd h (by decide), fun _ => ⟨c1, d1, a1, v1, rfl, hr⟩, fun h => absurd h (by decide), fun h5 h6 h7 => absurd rfl h7⟩))
      · intro bf ac wv hfb haf hJ K' hK
        obtain ⟨vs, rfl, ja, hB, j4⟩ := hJ
        replace hK := Lib.hid hK
        simp [Region.binds] at haf
        rw [HG.out] at j4
        have e6 := (j4 6 (by simp [haf])).2.1 rfl
        replace j4 := Lib.hid (And.intro ja j4)
        replace hB := Lib.hid hB
        clear ja haf
        obtain ⟨c1, d1, a1, v1, e6, hr⟩ := e6
        rw [HLIT.out]
        go_simp
        exact hK.out _ _ (NS.next (vs := vs) 8 (by omega) (fun q h => absurd h (by simp)) (x := .bool false) (by rw [HLIT.out]; simp only [upv, e6, Nat.reduceBEq, cond_true, cond_false]) (by rw [HG.out]; exact j4.out) hB.out (by rw [HG.out]; exact fun _ _ h => h) (by rw [HG.out]; exact ⟨fun h => absurd h (by decide), fun h => absurd h (by decide), fun h => absurd h (by decide), fun h => absurd h (by decide), fun _ _ _ _ _ => E8.out.symm⟩))
      · intro bf ac wv hfb haf hJ K' hK
        obtain ⟨vs, rfl, ja, hB, j4⟩ := hJ
        replace hK := Lib.hid hK
        simp [Region.binds] at haf
        rw [HG.out] at j4
        have e6 := (j4 6 (by simp [haf])).2.1 rfl
        replace j4 := Lib.hid (And.intro ja j4)
        replace hB := Lib.hid hB
        clear ja haf
        obtain ⟨c1, d1, a1, v1, e6, hr⟩ := e6
        rw [HLIT.out]
        go_simp
        exact hK.out _ _ (NS.next (vs := vs) 9 (by omega) (fun q h => absurd h (by simp)) (x := .int .i64 23) (by rw [HLIT.out]; simp only [upv, e6, Nat.reduceBEq, cond_true, cond_false]) (by rw [HG.out]; exact j4.out) hB.out (by rw [HG.out]; exact fun _ _ h => h) (by rw [HG.out]; exact ⟨fun h => absurd h (by decide), fun h => absurd h (by decide), fun h => absurd h (by decide), fun h => absurd h (by decide), fun _ _ _ _ _ => E9.out.symm⟩))
      · intro bf ac wv hfb haf hJ K' hK
        obtain ⟨vs, rfl, ja, hB, j4⟩ := hJ
        replace hK := Lib.hid hK
        rw [HG.out] at j4
        have hd : bf 11 = false := by
          cases h : bf 11
          · rfl
          · exact absurd ((ja 11 10 rfl h).symm.trans hfb) (by simp)
        have hM := Lib.hid (hB.1 hd)
        replace j4 := Lib.hid (And.intro ja j4)
        replace hB := Lib.hid hB
        clear ja haf
        rw [HLIT.out]
        go_simp
        have b4 := al wv (.cells Z5 30)
        exact hK.out _ _ (NS.next (vs := vs) 10 (by omega) (fun q h => absurd h (by simp)) (x := (.pointer (some ⟨wv.heap.size, 0, none⟩))) (by rw [HLIT.out]; rfl) (by rw [HG.out]; exact j4.out) ⟨fun _ => keep2 b4 hM.out, fun e => absurd (e.symm.trans hd) (by simp)⟩ (by rw [HG.out]; exact fun k hbk h => ⟨fun q => (h.1 q).step b4, fun q => (h.2.1 q).step b4, fun q => (h.2.2.1 q).step b4, fun q => (h.2.2.2.1 q).step b4, h.2.2.2.2⟩) (by rw [HG.out]; exact ⟨fun h => absurd h (by decide), fun h => absurd h (by decide), fun h => absurd h (by decide), fun _ => ⟨wv.heap.size, rfl, hM.out.size, fun _ => BoxN.new wv Z5 30, fun e => absurd (e.symm.trans hd) (by simp)⟩, fun h5 h6 h7 h10 => absurd rfl h10⟩))
      · intro bf ac wv hfb haf hJ K' hK
        obtain ⟨vs, rfl, ja, hB, j4⟩ := hJ
        replace hK := Lib.hid hK
        simp [Region.binds] at haf
        rw [HG.out] at j4
        have e7 := (j4 7 (by simp [haf])).2.2.1 rfl
        have e10 := (j4 10 (by simp [haf])).2.2.2.1 rfl
        rw [hfb] at j4 hB
        try rw [hfb] at e7
        try rw [hfb] at e10
        have HA := Lib.hid (show ∀ q, (fun p q => (p == 11 && q == 3) || (p == 11 && q == 4) || (p == 11 && q == 5) || (p == 11 && q == 10)) 11 q = true → bf q = true from fun q hi => by
          obtain rfl | rfl | rfl | rfl : q = 3 ∨ q = 4 ∨ q = 5 ∨ q = 10 := by simpa [or_assoc] using hi
          all_goals simp [haf])
        have hM := Lib.hid (hB.1 rfl)
        replace j4 := Lib.hid j4
        have HE := Lib.hid (And.intro ja HA.out)
        clear ja haf hB HA
        obtain ⟨k, e10, hk, hz, -⟩ := e10
        replace hz := hz rfl
        obtain ⟨c1, d1, a1, v1, e7, hr⟩ := e7
        replace hr := Lib.hid (hr rfl)
        replace hk := Lib.hid hk
        have HZ := Lib.hid hz
        have HZC := Lib.hid (Cs.of_heap hz)
        have x0 := HZC.out.c 0 rfl
        have y0 := HZC.out.f 0 (by simp [Z5])
        have x1 := HZC.out.c 1 rfl
        have y1 := HZC.out.f 1 (by simp [Z5])
        have x2 := HZC.out.c 2 rfl
        have y2 := HZC.out.f 2 (by simp [Z5])
        have x3 := HZC.out.c 3 rfl
        have y3 := HZC.out.f 3 (by simp [Z5])
        have x4 := HZC.out.c 4 rfl
        have y4 := HZC.out.f 4 (by simp [Z5])
        have xz := HZC.out.2.2
        clear hz
        rw [HLIT.out]
        go_simp
        obtain ⟨p1, p2, p3⟩ := put5_ok t f dn HZ.out hr.out hk.out
        exact hK.out _ _ (NS.put (vs := vs) (w' := put5 wv k t f dn c1 d1 a1 v1) (by rw [HLIT.out]; simp only [e10, e7]) HE.out ⟨fun e => (by cases e), fun _ => hM.out.trans p3⟩ (fun j hj hb => by
          rw [HG.out]
          have q := j4.out j hb
          exact ⟨fun h => (q.1 h).put _, fun h => (q.2.1 h).put _, fun h => (q.2.2.1 h).put _, fun h => by
            subst h
            exact ⟨k, e10, hk.out, fun e => (by cases e), fun _ => ⟨c1, d1, a1, v1, p1, p2⟩⟩, q.2.2.2.2⟩) (fun v => by rw [HG.out]; exact ⟨fun h => absurd h (by decide), fun h => absurd h (by decide), fun h => absurd h (by decide), fun h => absurd h (by decide), fun h5 h6 h7 h10 h11 => absurd rfl h11⟩))
      · intro bf ac wv hfb haf hJ K' hK
        obtain ⟨vs, rfl, ja, hB, j4⟩ := hJ
        replace hK := Lib.hid hK
        simp [Region.binds] at haf
        rw [HG.out] at j4
        have e8 := ((j4 8 (by simp [haf])).2.2.2.2 (by decide) (by decide) (by decide) (by decide) (by decide)).trans E8.out
        replace j4 := Lib.hid (And.intro ja j4)
        replace hB := Lib.hid hB
        clear ja haf
        rw [HLIT.out]
        go_simp
        exact hK.out _ _ (NS.next (vs := vs) 12 (by omega) (fun q h => absurd h (by simp)) (x := .bool false) (by rw [HLIT.out]; simp only [upv, e8, Nat.reduceBEq, cond_true, cond_false]) (by rw [HG.out]; exact j4.out) hB.out (by rw [HG.out]; exact fun _ _ h => h) (by rw [HG.out]; exact ⟨fun h => absurd h (by decide), fun h => absurd h (by decide), fun h => absurd h (by decide), fun h => absurd h (by decide), fun _ _ _ _ _ => E12.out.symm⟩))
      · intro bf ac wv hfb haf hJ K' hK
        obtain ⟨vs, rfl, ja, hB, j4⟩ := hJ
        replace hK := Lib.hid hK
        simp [Region.binds] at haf
        rw [HG.out] at j4
        have e9 := ((j4 9 (by simp [haf])).2.2.2.2 (by decide) (by decide) (by decide) (by decide) (by decide)).trans E9.out
        replace j4 := Lib.hid (And.intro ja j4)
        replace hB := Lib.hid hB
        clear ja haf
        rw [HLIT.out]
        go_simp
        exact hK.out _ _ (NS.next (vs := vs) 13 (by omega) (fun q h => absurd h (by simp)) (x := .int .i64 23) (by rw [HLIT.out]; simp only [upv, e9, Nat.reduceBEq, cond_true, cond_false]) (by rw [HG.out]; exact j4.out) hB.out (by rw [HG.out]; exact fun _ _ h => h) (by rw [HG.out]; exact ⟨fun h => absurd h (by decide), fun h => absurd h (by decide), fun h => absurd h (by decide), fun h => absurd h (by decide), fun _ _ _ _ _ => E13.out.symm⟩))
    · intro bf ac wv hall hJ
      obtain ⟨vs, rfl, -, hB, j4⟩ := hJ
      rw [HG.out] at j4
      rw [hall 11 (by decide)] at hB j4
      have hM := Lib.hid (hB.2 rfl)
      clear hB
      obtain ⟨k, e10, hk, -, hp⟩ := (j4 10 (hall 10 (by decide))).2.2.2.1 rfl
      obtain ⟨c1, d1, a1, v1, hc, hr⟩ := hp rfl
      have e12 := ((j4 12 (hall 12 (by decide))).2.2.2.2 (by decide) (by decide) (by decide) (by decide) (by decide)).trans E12.out
      have e13 := ((j4 13 (hall 13 (by decide))).2.2.2.2 (by decide) (by decide) (by decide) (by decide) (by decide)).trans E13.out
      clear j4 hall
      rw [HLIT.out]
      dsimp only
      rw [e10, e12, e13]
      clear e10 e12 e13
      go_wp2
      go_meet
      exact ⟨k, c1, d1, a1, v1, rfl, rfl, rfl, hk, hc, hr, hM.out⟩
  case rest =>
    obtain ⟨k, c1, d1, a1, v1, rfl, rfl, rfl, hk, hc, hr, b5⟩ := hcut
    have HKK := Lib.hid hk
    have HKR := Lib.hid hc
    have HRV := Lib.hid hr
    clear hk hc hr
    have HWB := Lib.hid H7.out
    have H10 := Lib.hid (H7.out.step b5)
    have H11 := Lib.hid (H8.out.step b5)
    have H12 := Lib.hid (H9.out.step b5 HLE.out)
    clear H7 H8 H9
    replace HLE := Lib.hid (H10.out.le)
    clear b5
    go_upto_region 4 with fail
    obtain ⟨lit, hlit⟩ : ∃ lit : (Nat → Value) → Act, lit = fun vs => { tmps := List.toArray (Value.pointer (some { block := n, off := 0 }) :: Value.agg #[Value.int IntKind.i64 a, Value.int IntKind.i64 b, Value.int IntKind.i64 c, Value.int IntKind.i64 d] :: Value.bool cf :: undef :: Value.pointer (some { block := w.heap.size, off := 0 }) :: undef :: vs 32 :: Value.bool pb :: Value.pointer (some { block := k, off := 0 }) :: Value.bool false :: Value.int IntKind.i64 23 :: Value.pointer (some { block := n, off := 0 }) :: Value.pointer (some { block := n, off := 0 }) :: Value.pointer (some { block := n, off := 0 }) :: Value.pointer (some { block := n, off := 1 }) :: Value.slice pa P.length pc :: Value.pointer (some { block := w.heap.size, off := 0 }) :: Value.int IntKind.i64 a :: Value.bool pb :: u19 :: u20 :: u21 :: u22 :: u23 :: u24 :: u25 :: u26 :: u27 :: u28 :: Value.int IntKind.i64 23 :: Value.bool true :: vs 0 :: vs 1 :: vs 2 :: vs 3 :: vs 4 :: vs 5 :: vs 6 :: vs 7 :: vs 8 :: vs 9 :: vs 10 :: vs 11 :: vs 12 :: vs 13 :: vs 14 :: vs 15 :: vs 16 :: vs 17 :: vs 18 :: vs 19 :: vs 20 :: vs 21 :: vs 22 :: vs 23 :: vs 24 :: vs 25 :: vs 26 :: vs 27 :: vs 28 :: vs 29 :: vs 30 :: vs 31 :: undef :: undef :: undef :: undef :: undef :: undef :: undef :: undef :: undef :: undef :: undef :: undef :: undef :: undef :: undef :: undef :: undef :: undef :: undef :: undef :: undef :: undef :: undef :: undef :: undef :: undef :: undef :: undef :: undef :: undef :: undef :: undef :: undef :: undef :: undef :: undef :: undef :: undef :: undef :: undef :: undef :: undef :: undef :: undef :: undef :: undef :: undef :: undef :: undef :: undef :: undef :: undef :: undef :: undef :: undef :: undef :: undef :: undef :: undef :: undef :: undef :: undef :: undef :: undef :: undef :: undef :: undef :: undef :: undef :: undef :: undef :: undef :: undef :: undef :: undef :: undef :: undef :: undef :: undef :: undef :: []), defers := [] } := ⟨_, rfl⟩
    have HLIT := Lib.hid hlit
    clear hlit
    obtain ⟨val, hval⟩ : ∃ val : List Value, val = [.bool false, .bool true, .bool true, .agg #[.int .i64 t, .slice a1 16 c1, .int .i64 f, .slice v1 4 d1, .int .i64 dn], .pointer (some ⟨n, 0, none⟩), .pointer (some ⟨n, 0, none⟩), .pointer (some ⟨n, 2, none⟩), .agg #[.int .i64 t, .slice ta 16 tc, .int .i64 f, .slice va 4 vc, .int .i64 dn], .bool true, .bool true, .bool true, .int .i64 23, .bool true, .bool true, .pointer (some ⟨w.heap.size, 1, none⟩), .int .i64 b, .pointer (some ⟨n, 0, none⟩), .pointer (some ⟨n, 0, none⟩), .pointer (some ⟨n, 2, none⟩), .pointer (some ⟨n, 4, none⟩), .int .i64 f, .bool true, .bool true, .bool true, undef, undef, undef, undef, undef, undef, .bool true, .bool true, .bool true] := ⟨_, rfl⟩
    have E0 := Lib.hid (show val.getD 0 undef = .bool false by rw [hval]; rfl)
    have E1 := Lib.hid (show val.getD 1 undef = .bool true by rw [hval]; rfl)
    have E2 := Lib.hid (show val.getD 2 undef = .bool true by rw [hval]; rfl)
    have E3 := Lib.hid (show val.getD 3 undef = .agg #[.int .i64 t, .slice a1 16 c1, .int .i64 f, .slice v1 4 d1, .int .i64 dn] by rw [hval]; rfl)
    have E4 := Lib.hid (show val.getD 4 undef = .pointer (some ⟨n, 0, none⟩) by rw [hval]; rfl)
    have E5 := Lib.hid (show val.getD 5 undef = .pointer (some ⟨n, 0, none⟩) by rw [hval]; rfl)
    have E6 := Lib.hid (show val.getD 6 undef = .pointer (some ⟨n, 2, none⟩) by rw [hval]; rfl)
    have E7 := Lib.hid (show val.getD 7 undef = .agg #[.int .i64 t, .slice ta 16 tc, .int .i64 f, .slice va 4 vc, .int .i64 dn] by rw [hval]; rfl)
    have E8 := Lib.hid (show val.getD 8 undef = .bool true by rw [hval]; rfl)
    have E9 := Lib.hid (show val.getD 9 undef = .bool true by rw [hval]; rfl)
    have E10 := Lib.hid (show val.getD 10 undef = .bool true by rw [hval]; rfl)
    have E11 := Lib.hid (show val.getD 11 undef = .int .i64 23 by rw [hval]; rfl)
    have E12 := Lib.hid (show val.getD 12 undef = .bool true by rw [hval]; rfl)
    have E13 := Lib.hid (show val.getD 13 undef = .bool true by rw [hval]; rfl)
    have E14 := Lib.hid (show val.getD 14 undef = .pointer (some ⟨w.heap.size, 1, none⟩) by rw [hval]; rfl)
    have E15 := Lib.hid (show val.getD 15 undef = .int .i64 b by rw [hval]; rfl)
    have E16 := Lib.hid (show val.getD 16 undef = .pointer (some ⟨n, 0, none⟩) by rw [hval]; rfl)
    have E17 := Lib.hid (show val.getD 17 undef = .pointer (some ⟨n, 0, none⟩) by rw [hval]; rfl)
    have E18 := Lib.hid (show val.getD 18 undef = .pointer (some ⟨n, 2, none⟩) by rw [hval]; rfl)
    have E19 := Lib.hid (show val.getD 19 undef = .pointer (some ⟨n, 4, none⟩) by rw [hval]; rfl)
    have E20 := Lib.hid (show val.getD 20 undef = .int .i64 f by rw [hval]; rfl)
    have E21 := Lib.hid (show val.getD 21 undef = .bool true by rw [hval]; rfl)
    have E22 := Lib.hid (show val.getD 22 undef = .bool true by rw [hval]; rfl)
    have E23 := Lib.hid (show val.getD 23 undef = .bool true by rw [hval]; rfl)
    have E24 := Lib.hid (show val.getD 24 undef = undef by rw [hval]; rfl)
    have E25 := Lib.hid (show val.getD 25 undef = undef by rw [hval]; rfl)
    have E26 := Lib.hid (show val.getD 26 undef = undef by rw [hval]; rfl)
    have E27 := Lib.hid (show val.getD 27 undef = undef by rw [hval]; rfl)
    have E28 := Lib.hid (show val.getD 28 undef = undef by rw [hval]; rfl)
    have E29 := Lib.hid (show val.getD 29 undef = undef by rw [hval]; rfl)
    have E30 := Lib.hid (show val.getD 30 undef = .bool true by rw [hval]; rfl)
    have E31 := Lib.hid (show val.getD 31 undef = .bool true by rw [hval]; rfl)
    have E32 := Lib.hid (show val.getD 32 undef = .bool true by rw [hval]; rfl)
    clear hval
    obtain ⟨G, hG0⟩ : ∃ G : Nat → Value → World → Prop, G = (fun i v w => (v = val.getD i undef)) := ⟨_, rfl⟩
    have HG := Lib.hid hG0
    clear hG0
    refine region_inv (RS lit wc G) (by kernel_rfl) (by decide +kernel) ?_ ?_ ?_
    · exact ⟨fun i => ([undef, undef, undef, undef, undef, undef, undef, undef, undef, undef, undef, undef, undef, undef, undef, undef, undef, undef, undef, undef, undef, undef, undef, undef, undef, undef, undef, undef, undef, undef, undef, undef, Value.bool false] : List Value).getD i undef, (by rw [HLIT.out]; rfl), below_drew _ _, fun i h => by cases h⟩
    · refine ⟨?_, ?_, ?_, ?_, ?_, ?_, ?_, ?_, ?_, ?_, ?_, ?_, ?_, ?_, ?_, ?_, ?_, ?_, ?_, ?_, ?_, ?_, ?_, ?_, ?_, ?_, ?_, ?_, ?_, ?_, ?_, ?_, ?_, trivial⟩
      · intro bf ac wv hfb haf hJ K' hK
        obtain ⟨vs, rfl, hM, j4⟩ := hJ
        replace hK := Lib.hid hK
        replace hM := Lib.hid hM
        rw [HG.out] at j4
        replace j4 := Lib.hid j4
        clear haf hfb
        rw [HLIT.out]
        go_simp
        exact hK.out _ _ (RS.next (wv := wv) (vs := vs) 0 (x := .bool false) (by rw [HLIT.out]; rfl) (by rw [HG.out]; exact j4.out) hM.out (by rw [HG.out]; exact fun _ _ h => h) (by rw [HG.out]; exact E0.out.symm))
      · intro bf ac wv hfb haf hJ K' hK
        obtain ⟨vs, rfl, hM, j4⟩ := hJ
        replace hK := Lib.hid hK
        replace hM := Lib.hid hM
        rw [HG.out] at j4
        simp [Region.binds] at haf
        have e0 := ((j4 0 (by simp [haf]))).trans E0.out
        replace j4 := Lib.hid j4
        clear haf hfb
        rw [HLIT.out]
        go_simp
        exact hK.out _ _ (RS.next (wv := wv) (vs := vs) 1 (x := .bool true) (by rw [HLIT.out]; simp only [upv, e0, Nat.reduceBEq, cond_true, cond_false]) (by rw [HG.out]; exact j4.out) hM.out (by rw [HG.out]; exact fun _ _ h => h) (by rw [HG.out]; exact E1.out.symm))
      · intro bf ac wv hfb haf hJ K' hK
        obtain ⟨vs, rfl, hM, j4⟩ := hJ
        replace hK := Lib.hid hK
        replace hM := Lib.hid hM
        rw [HG.out] at j4
        simp [Region.binds] at haf
        have e1 := ((j4 1 (by simp [haf]))).trans E1.out
        replace j4 := Lib.hid j4
        clear haf hfb
        rw [HLIT.out]
        go_simp
        exact hK.out _ _ (RS.next (wv := wv) (vs := vs) 2 (x := .bool true) (by rw [HLIT.out]; simp only [upv, e1, Nat.reduceBEq, cond_true, cond_false]) (by rw [HG.out]; exact j4.out) hM.out (by rw [HG.out]; exact fun _ _ h => h) (by rw [HG.out]; exact E2.out.symm))
      · intro bf ac wv hfb haf hJ K' hK
        obtain ⟨vs, rfl, hM, j4⟩ := hJ
        replace hK := Lib.hid hK
        replace hM := Lib.hid hM
        rw [HG.out] at j4
        simp [Region.binds] at haf
        have e2 := ((j4 2 (by simp [haf]))).trans E2.out
        replace j4 := Lib.hid j4
        clear haf hfb
        have xk0 := (HKR.out.step hM.out).c 0 rfl
        have xk1 := (HKR.out.step hM.out).c 1 rfl
        have xk2 := (HKR.out.step hM.out).c 2 rfl
        have xk3 := (HKR.out.step hM.out).c 3 rfl
        have xk4 := (HKR.out.step hM.out).c 4 rfl
        have xkz := (HKR.out.step hM.out).2.2
        rw [HLIT.out]
        go_simp
        exact hK.out _ _ (RS.next (wv := wv) (vs := vs) 3 (x := .agg #[.int .i64 t, .slice a1 16 c1, .int .i64 f, .slice v1 4 d1, .int .i64 dn]) (by rw [HLIT.out]; simp only [upv, e2, Nat.reduceBEq, cond_true, cond_false]) (by rw [HG.out]; exact j4.out) hM.out (by rw [HG.out]; exact fun _ _ h => h) (by rw [HG.out]; exact E3.out.symm))
      · intro bf ac wv hfb haf hJ K' hK
        obtain ⟨vs, rfl, hM, j4⟩ := hJ
        replace hK := Lib.hid hK
        replace hM := Lib.hid hM
        rw [HG.out] at j4
        simp [Region.binds] at haf
        have e2 := ((j4 2 (by simp [haf]))).trans E2.out
        replace j4 := Lib.hid j4
        clear haf hfb
        rw [HLIT.out]
        go_simp
        exact hK.out _ _ (RS.next (wv := wv) (vs := vs) 4 (x := .pointer (some ⟨n, 0, none⟩)) (by rw [HLIT.out]; simp only [upv, e2, Nat.reduceBEq, cond_true, cond_false]) (by rw [HG.out]; exact j4.out) hM.out (by rw [HG.out]; exact fun _ _ h => h) (by rw [HG.out]; exact E4.out.symm))
      · intro bf ac wv hfb haf hJ K' hK
        obtain ⟨vs, rfl, hM, j4⟩ := hJ
        replace hK := Lib.hid hK
        replace hM := Lib.hid hM
        rw [HG.out] at j4
        simp [Region.binds] at haf
        have e2 := ((j4 2 (by simp [haf]))).trans E2.out
        have e4 := ((j4 4 (by simp [haf]))).trans E4.out
        replace j4 := Lib.hid j4
        clear haf hfb
        rw [HLIT.out]
        go_simp
        exact hK.out _ _ (RS.next (wv := wv) (vs := vs) 5 (x := .pointer (some ⟨n, 0, none⟩)) (by rw [HLIT.out]; simp only [upv, e2, e4, Nat.reduceBEq, cond_true, cond_false]) (by rw [HG.out]; exact j4.out) hM.out (by rw [HG.out]; exact fun _ _ h => h) (by rw [HG.out]; exact E5.out.symm))
      · intro bf ac wv hfb haf hJ K' hK
        obtain ⟨vs, rfl, hM, j4⟩ := hJ
        replace hK := Lib.hid hK
        replace hM := Lib.hid hM
        rw [HG.out] at j4
        simp [Region.binds] at haf
        have e2 := ((j4 2 (by simp [haf]))).trans E2.out
        have e5 := ((j4 5 (by simp [haf]))).trans E5.out
        replace j4 := Lib.hid j4
        clear haf hfb
        rw [HLIT.out]
        go_simp
        exact hK.out _ _ (RS.next (wv := wv) (vs := vs) 6 (x := .pointer (some ⟨n, 2, none⟩)) (by rw [HLIT.out]; simp only [upv, e2, e5, Nat.reduceBEq, cond_true, cond_false]) (by rw [HG.out]; exact j4.out) hM.out (by rw [HG.out]; exact fun _ _ h => h) (by rw [HG.out]; exact E6.out.symm))
      · intro bf ac wv hfb haf hJ K' hK
        obtain ⟨vs, rfl, hM, j4⟩ := hJ
        replace hK := Lib.hid hK
        replace hM := Lib.hid hM
        rw [HG.out] at j4
        simp [Region.binds] at haf
        have e2 := ((j4 2 (by simp [haf]))).trans E2.out
        have e6 := ((j4 6 (by simp [haf]))).trans E6.out
        replace j4 := Lib.hid j4
        clear haf hfb
        have xx2 := (H10.out.step hM.out).cs.c 2 rfl
        have xx3 := (H10.out.step hM.out).cs.c 3 rfl
        have xx4 := (H10.out.step hM.out).cs.c 4 rfl
        have xx5 := (H10.out.step hM.out).cs.c 5 rfl
        have xx6 := (H10.out.step hM.out).cs.c 6 rfl
        have xxz := (H10.out.step hM.out).cs.2.2
        rw [HLIT.out]
        go_simp
        exact hK.out _ _ (RS.next (wv := wv) (vs := vs) 7 (x := .agg #[.int .i64 t, .slice ta 16 tc, .int .i64 f, .slice va 4 vc, .int .i64 dn]) (by rw [HLIT.out]; simp only [upv, e2, e6, Nat.reduceBEq, cond_true, cond_false]) (by rw [HG.out]; exact j4.out) hM.out (by rw [HG.out]; exact fun _ _ h => h) (by rw [HG.out]; exact E7.out.symm))
      · intro bf ac wv hfb haf hJ K' hK
        obtain ⟨vs, rfl, hM, j4⟩ := hJ
        replace hK := Lib.hid hK
        replace hM := Lib.hid hM
        rw [HG.out] at j4
        simp [Region.binds] at haf
        have e2 := ((j4 2 (by simp [haf]))).trans E2.out
        have e3 := ((j4 3 (by simp [haf]))).trans E3.out
        have e7 := ((j4 7 (by simp [haf]))).trans E7.out
        replace j4 := Lib.hid j4
        clear haf hfb
        rw [HLIT.out]
        go_simp
        go_at_call 16
        refine (samer_w t f dn L V HAL.out a1 v1 ta va c1 d1 tc vc _ (HRV.out.step hM.out).2.1 (HRV.out.step hM.out).2.2.1 (H10.out.step hM.out).tt (H10.out.step hM.out).vv).mono ?_
        rintro e w4 ⟨rfl, b4⟩
        exact hK.out _ _ (RS.next (wv := wv) (vs := vs) 8 (x := .bool true) (by rw [HLIT.out]; simp only [upv, e2, e3, e7, Nat.reduceBEq, cond_true, cond_false]) (by rw [HG.out]; exact j4.out) (keep2 b4 hM.out) (by rw [HG.out]; exact fun _ _ h => h) (by rw [HG.out]; exact E8.out.symm))
      · intro bf ac wv hfb haf hJ K' hK
        obtain ⟨vs, rfl, hM, j4⟩ := hJ
        replace hK := Lib.hid hK
        replace hM := Lib.hid hM
        rw [HG.out] at j4
        simp [Region.binds] at haf
        have e2 := ((j4 2 (by simp [haf]))).trans E2.out
        have e8 := ((j4 8 (by simp [haf]))).trans E8.out
        replace j4 := Lib.hid j4
        clear haf hfb
        rw [HLIT.out]
        go_simp
        exact hK.out _ _ (RS.next (wv := wv) (vs := vs) 9 (x := .bool true) (by rw [HLIT.out]; simp only [upv, e2, e8, Nat.reduceBEq, cond_true, cond_false]) (by rw [HG.out]; exact j4.out) hM.out (by rw [HG.out]; exact fun _ _ h => h) (by rw [HG.out]; exact E9.out.symm))
      · intro bf ac wv hfb haf hJ K' hK
        obtain ⟨vs, rfl, hM, j4⟩ := hJ
        replace hK := Lib.hid hK
        replace hM := Lib.hid hM
        rw [HG.out] at j4
        simp [Region.binds] at haf
        have e9 := ((j4 9 (by simp [haf]))).trans E9.out
        replace j4 := Lib.hid j4
        clear haf hfb
        rw [HLIT.out]
        go_simp
        exact hK.out _ _ (RS.next (wv := wv) (vs := vs) 10 (x := .bool true) (by rw [HLIT.out]; simp only [upv, e9, Nat.reduceBEq, cond_true, cond_false]) (by rw [HG.out]; exact j4.out) hM.out (by rw [HG.out]; exact fun _ _ h => h) (by rw [HG.out]; exact E10.out.symm))
      · intro bf ac wv hfb haf hJ K' hK
        obtain ⟨vs, rfl, hM, j4⟩ := hJ
        replace hK := Lib.hid hK
        replace hM := Lib.hid hM
        rw [HG.out] at j4
        simp [Region.binds] at haf
        have e10 := ((j4 10 (by simp [haf]))).trans E10.out
        replace j4 := Lib.hid j4
        clear haf hfb
        rw [HLIT.out]
        go_simp
        exact hK.out _ _ (RS.next (wv := wv) (vs := vs) 11 (x := .int .i64 23) (by rw [HLIT.out]; simp only [upv, e10, Nat.reduceBEq, cond_true, cond_false]) (by rw [HG.out]; exact j4.out) hM.out (by rw [HG.out]; exact fun _ _ h => h) (by rw [HG.out]; exact E11.out.symm))
      · intro bf ac wv hfb haf hJ K' hK
        obtain ⟨vs, rfl, hM, j4⟩ := hJ
        replace hK := Lib.hid hK
        replace hM := Lib.hid hM
        rw [HG.out] at j4
        simp [Region.binds] at haf
        have e10 := ((j4 10 (by simp [haf]))).trans E10.out
        have e11 := ((j4 11 (by simp [haf]))).trans E11.out
        replace j4 := Lib.hid j4
        clear haf hfb
        rw [HLIT.out]
        go_simp
        exact hK.out _ _ (RS.next (wv := wv) (vs := vs) 12 (x := .bool true) (by rw [HLIT.out]; simp only [upv, e10, e11, Nat.reduceBEq, cond_true, cond_false]) (by rw [HG.out]; exact j4.out) hM.out (by rw [HG.out]; exact fun _ _ h => h) (by rw [HG.out]; exact E12.out.symm))
      · intro bf ac wv hfb haf hJ K' hK
        obtain ⟨vs, rfl, hM, j4⟩ := hJ
        replace hK := Lib.hid hK
        replace hM := Lib.hid hM
        rw [HG.out] at j4
        simp [Region.binds] at haf
        have e10 := ((j4 10 (by simp [haf]))).trans E10.out
        have e12 := ((j4 12 (by simp [haf]))).trans E12.out
        replace j4 := Lib.hid j4
        clear haf hfb
        rw [HLIT.out]
        go_simp
        exact hK.out _ _ (RS.next (wv := wv) (vs := vs) 13 (x := .bool true) (by rw [HLIT.out]; simp only [upv, e10, e12, Nat.reduceBEq, cond_true, cond_false]) (by rw [HG.out]; exact j4.out) hM.out (by rw [HG.out]; exact fun _ _ h => h) (by rw [HG.out]; exact E13.out.symm))
      · intro bf ac wv hfb haf hJ K' hK
        obtain ⟨vs, rfl, hM, j4⟩ := hJ
        replace hK := Lib.hid hK
        replace hM := Lib.hid hM
        rw [HG.out] at j4
        simp [Region.binds] at haf
        have e13 := ((j4 13 (by simp [haf]))).trans E13.out
        replace j4 := Lib.hid j4
        clear haf hfb
        rw [HLIT.out]
        go_simp
        exact hK.out _ _ (RS.next (wv := wv) (vs := vs) 14 (x := .pointer (some ⟨w.heap.size, 1, none⟩)) (by rw [HLIT.out]; simp only [upv, e13, Nat.reduceBEq, cond_true, cond_false]) (by rw [HG.out]; exact j4.out) hM.out (by rw [HG.out]; exact fun _ _ h => h) (by rw [HG.out]; exact E14.out.symm))
      · intro bf ac wv hfb haf hJ K' hK
        obtain ⟨vs, rfl, hM, j4⟩ := hJ
        replace hK := Lib.hid hK
        replace hM := Lib.hid hM
        rw [HG.out] at j4
        simp [Region.binds] at haf
        have e13 := ((j4 13 (by simp [haf]))).trans E13.out
        have e14 := ((j4 14 (by simp [haf]))).trans E14.out
        replace j4 := Lib.hid j4
        clear haf hfb
        have xp1 := (H11.out.step hM.out).c 1 rfl
        have xpz := (H11.out.step hM.out).2.2
        rw [HLIT.out]
        go_simp
        exact hK.out _ _ (RS.next (wv := wv) (vs := vs) 15 (x := .int .i64 b) (by rw [HLIT.out]; simp only [upv, e13, e14, Nat.reduceBEq, cond_true, cond_false]) (by rw [HG.out]; exact j4.out) hM.out (by rw [HG.out]; exact fun _ _ h => h) (by rw [HG.out]; exact E15.out.symm))
      · intro bf ac wv hfb haf hJ K' hK
        obtain ⟨vs, rfl, hM, j4⟩ := hJ
        replace hK := Lib.hid hK
        replace hM := Lib.hid hM
        rw [HG.out] at j4
        simp [Region.binds] at haf
        have e13 := ((j4 13 (by simp [haf]))).trans E13.out
        replace j4 := Lib.hid j4
        clear haf hfb
        rw [HLIT.out]
        go_simp
        exact hK.out _ _ (RS.next (wv := wv) (vs := vs) 16 (x := .pointer (some ⟨n, 0, none⟩)) (by rw [HLIT.out]; simp only [upv, e13, Nat.reduceBEq, cond_true, cond_false]) (by rw [HG.out]; exact j4.out) hM.out (by rw [HG.out]; exact fun _ _ h => h) (by rw [HG.out]; exact E16.out.symm))
      · intro bf ac wv hfb haf hJ K' hK
        obtain ⟨vs, rfl, hM, j4⟩ := hJ
        replace hK := Lib.hid hK
        replace hM := Lib.hid hM
        rw [HG.out] at j4
        simp [Region.binds] at haf
        have e13 := ((j4 13 (by simp [haf]))).trans E13.out
        have e16 := ((j4 16 (by simp [haf]))).trans E16.out
        replace j4 := Lib.hid j4
        clear haf hfb
        rw [HLIT.out]
        go_simp
        exact hK.out _ _ (RS.next (wv := wv) (vs := vs) 17 (x := .pointer (some ⟨n, 0, none⟩)) (by rw [HLIT.out]; simp only [upv, e13, e16, Nat.reduceBEq, cond_true, cond_false]) (by rw [HG.out]; exact j4.out) hM.out (by rw [HG.out]; exact fun _ _ h => h) (by rw [HG.out]; exact E17.out.symm))
      · intro bf ac wv hfb haf hJ K' hK
        obtain ⟨vs, rfl, hM, j4⟩ := hJ
        replace hK := Lib.hid hK
        replace hM := Lib.hid hM
        rw [HG.out] at j4
        simp [Region.binds] at haf
        have e13 := ((j4 13 (by simp [haf]))).trans E13.out
        have e17 := ((j4 17 (by simp [haf]))).trans E17.out
        replace j4 := Lib.hid j4
        clear haf hfb
        rw [HLIT.out]
        go_simp
        exact hK.out _ _ (RS.next (wv := wv) (vs := vs) 18 (x := .pointer (some ⟨n, 2, none⟩)) (by rw [HLIT.out]; simp only [upv, e13, e17, Nat.reduceBEq, cond_true, cond_false]) (by rw [HG.out]; exact j4.out) hM.out (by rw [HG.out]; exact fun _ _ h => h) (by rw [HG.out]; exact E18.out.symm))
      · intro bf ac wv hfb haf hJ K' hK
        obtain ⟨vs, rfl, hM, j4⟩ := hJ
        replace hK := Lib.hid hK
        replace hM := Lib.hid hM
        rw [HG.out] at j4
        simp [Region.binds] at haf
        have e13 := ((j4 13 (by simp [haf]))).trans E13.out
        have e18 := ((j4 18 (by simp [haf]))).trans E18.out
        replace j4 := Lib.hid j4
        clear haf hfb
        rw [HLIT.out]
        go_simp
        exact hK.out _ _ (RS.next (wv := wv) (vs := vs) 19 (x := .pointer (some ⟨n, 4, none⟩)) (by rw [HLIT.out]; simp only [upv, e13, e18, Nat.reduceBEq, cond_true, cond_false]) (by rw [HG.out]; exact j4.out) hM.out (by rw [HG.out]; exact fun _ _ h => h) (by rw [HG.out]; exact E19.out.symm))
      · intro bf ac wv hfb haf hJ K' hK
        obtain ⟨vs, rfl, hM, j4⟩ := hJ
        replace hK := Lib.hid hK
        replace hM := Lib.hid hM
        rw [HG.out] at j4
        simp [Region.binds] at haf
        have e13 := ((j4 13 (by simp [haf]))).trans E13.out
        have e19 := ((j4 19 (by simp [haf]))).trans E19.out
        replace j4 := Lib.hid j4
        clear haf hfb
        have xx4 := (H10.out.step hM.out).cs.c 4 rfl
        have xxz := (H10.out.step hM.out).cs.2.2
        rw [HLIT.out]
        go_simp
        exact hK.out _ _ (RS.next (wv := wv) (vs := vs) 20 (x := .int .i64 f) (by rw [HLIT.out]; simp only [upv, e13, e19, Nat.reduceBEq, cond_true, cond_false]) (by rw [HG.out]; exact j4.out) hM.out (by rw [HG.out]; exact fun _ _ h => h) (by rw [HG.out]; exact E20.out.symm))
      · intro bf ac wv hfb haf hJ K' hK
        obtain ⟨vs, rfl, hM, j4⟩ := hJ
        replace hK := Lib.hid hK
        replace hM := Lib.hid hM
        rw [HG.out] at j4
        simp [Region.binds] at haf
        have e13 := ((j4 13 (by simp [haf]))).trans E13.out
        have e15 := ((j4 15 (by simp [haf]))).trans E15.out
        have e20 := ((j4 20 (by simp [haf]))).trans E20.out
        replace j4 := Lib.hid j4
        clear haf hfb
        rw [HLIT.out]
        go_simp
        exact hK.out _ _ (RS.next (wv := wv) (vs := vs) 21 (x := .bool true) (by rw [HLIT.out]; simp only [upv, e13, e15, e20, Nat.reduceBEq, cond_true, cond_false]) (by rw [HG.out]; exact j4.out) hM.out (by rw [HG.out]; exact fun _ _ h => h) (by rw [HG.out]; exact E21.out.symm))
      · intro bf ac wv hfb haf hJ K' hK
        obtain ⟨vs, rfl, hM, j4⟩ := hJ
        replace hK := Lib.hid hK
        replace hM := Lib.hid hM
        rw [HG.out] at j4
        simp [Region.binds] at haf
        have e10 := ((j4 10 (by simp [haf]))).trans E10.out
        have e13 := ((j4 13 (by simp [haf]))).trans E13.out
        have e21 := ((j4 21 (by simp [haf]))).trans E21.out
        replace j4 := Lib.hid j4
        clear haf hfb
        rw [HLIT.out]
        go_simp
        exact hK.out _ _ (RS.next (wv := wv) (vs := vs) 22 (x := .bool true) (by rw [HLIT.out]; simp only [upv, e10, e13, e21, Nat.reduceBEq, cond_true, cond_false]) (by rw [HG.out]; exact j4.out) hM.out (by rw [HG.out]; exact fun _ _ h => h) (by rw [HG.out]; exact E22.out.symm))
      · intro bf ac wv hfb haf hJ K' hK
        obtain ⟨vs, rfl, hM, j4⟩ := hJ
        replace hK := Lib.hid hK
        replace hM := Lib.hid hM
        rw [HG.out] at j4
        simp [Region.binds] at haf
        have e10 := ((j4 10 (by simp [haf]))).trans E10.out
        have e22 := ((j4 22 (by simp [haf]))).trans E22.out
        replace j4 := Lib.hid j4
        clear haf hfb
        rw [HLIT.out]
        go_simp
        exact hK.out _ _ (RS.next (wv := wv) (vs := vs) 23 (x := .bool true) (by rw [HLIT.out]; simp only [upv, e10, e22, Nat.reduceBEq, cond_true, cond_false]) (by rw [HG.out]; exact j4.out) hM.out (by rw [HG.out]; exact fun _ _ h => h) (by rw [HG.out]; exact E23.out.symm))
      · intro bf ac wv hfb haf hJ K' hK
        obtain ⟨vs, rfl, hM, j4⟩ := hJ
        replace hK := Lib.hid hK
        replace hM := Lib.hid hM
        rw [HG.out] at j4
        simp [Region.binds] at haf
        have e23 := ((j4 23 (by simp [haf]))).trans E23.out
        replace j4 := Lib.hid j4
        clear haf hfb
        rw [HLIT.out]
        go_simp
        exact hK.out _ _ (RS.next (wv := wv) (vs := vs) 24 (x := undef) (by rw [HLIT.out]; simp only [upv, e23, Nat.reduceBEq, cond_true, cond_false]) (by rw [HG.out]; exact j4.out) hM.out (by rw [HG.out]; exact fun _ _ h => h) (by rw [HG.out]; exact E24.out.symm))
      · intro bf ac wv hfb haf hJ K' hK
        obtain ⟨vs, rfl, hM, j4⟩ := hJ
        replace hK := Lib.hid hK
        replace hM := Lib.hid hM
        rw [HG.out] at j4
        simp [Region.binds] at haf
        have e23 := ((j4 23 (by simp [haf]))).trans E23.out
        replace j4 := Lib.hid j4
        clear haf hfb
        rw [HLIT.out]
        go_simp
        exact hK.out _ _ (RS.next (wv := wv) (vs := vs) 25 (x := undef) (by rw [HLIT.out]; simp only [upv, e23, Nat.reduceBEq, cond_true, cond_false]) (by rw [HG.out]; exact j4.out) hM.out (by rw [HG.out]; exact fun _ _ h => h) (by rw [HG.out]; exact E25.out.symm))
      · intro bf ac wv hfb haf hJ K' hK
        obtain ⟨vs, rfl, hM, j4⟩ := hJ
        replace hK := Lib.hid hK
        replace hM := Lib.hid hM
        rw [HG.out] at j4
        simp [Region.binds] at haf
        have e23 := ((j4 23 (by simp [haf]))).trans E23.out
        replace j4 := Lib.hid j4
        clear haf hfb
        rw [HLIT.out]
        go_simp
        exact hK.out _ _ (RS.next (wv := wv) (vs := vs) 26 (x := undef) (by rw [HLIT.out]; simp only [upv, e23, Nat.reduceBEq, cond_true, cond_false]) (by rw [HG.out]; exact j4.out) hM.out (by rw [HG.out]; exact fun _ _ h => h) (by rw [HG.out]; exact E26.out.symm))
      · intro bf ac wv hfb haf hJ K' hK
        obtain ⟨vs, rfl, hM, j4⟩ := hJ
        replace hK := Lib.hid hK
        replace hM := Lib.hid hM
        rw [HG.out] at j4
        simp [Region.binds] at haf
        have e26 := ((j4 26 (by simp [haf]))).trans E26.out
        replace j4 := Lib.hid j4
        clear haf hfb
        rw [HLIT.out]
        go_simp
        exact hK.out _ _ (RS.next (wv := wv) (vs := vs) 27 (x := undef) (by rw [HLIT.out]; simp only [upv, e26, Nat.reduceBEq, cond_true, cond_false]) (by rw [HG.out]; exact j4.out) hM.out (by rw [HG.out]; exact fun _ _ h => h) (by rw [HG.out]; exact E27.out.symm))
      · intro bf ac wv hfb haf hJ K' hK
        obtain ⟨vs, rfl, hM, j4⟩ := hJ
        replace hK := Lib.hid hK
        replace hM := Lib.hid hM
        rw [HG.out] at j4
        simp [Region.binds] at haf
        have e26 := ((j4 26 (by simp [haf]))).trans E26.out
        replace j4 := Lib.hid j4
        clear haf hfb
        rw [HLIT.out]
        go_simp
        exact hK.out _ _ (RS.next (wv := wv) (vs := vs) 28 (x := undef) (by rw [HLIT.out]; simp only [upv, e26, Nat.reduceBEq, cond_true, cond_false]) (by rw [HG.out]; exact j4.out) hM.out (by rw [HG.out]; exact fun _ _ h => h) (by rw [HG.out]; exact E28.out.symm))
      · intro bf ac wv hfb haf hJ K' hK
        obtain ⟨vs, rfl, hM, j4⟩ := hJ
        replace hK := Lib.hid hK
        replace hM := Lib.hid hM
        rw [HG.out] at j4
        simp [Region.binds] at haf
        have e23 := ((j4 23 (by simp [haf]))).trans E23.out
        replace j4 := Lib.hid j4
        clear haf hfb
        rw [HLIT.out]
        go_simp
        exact hK.out _ _ (RS.next (wv := wv) (vs := vs) 29 (x := undef) (by rw [HLIT.out]; simp only [upv, e23, Nat.reduceBEq, cond_true, cond_false]) (by rw [HG.out]; exact j4.out) hM.out (by rw [HG.out]; exact fun _ _ h => h) (by rw [HG.out]; exact E29.out.symm))
      · intro bf ac wv hfb haf hJ K' hK
        obtain ⟨vs, rfl, hM, j4⟩ := hJ
        replace hK := Lib.hid hK
        replace hM := Lib.hid hM
        rw [HG.out] at j4
        simp [Region.binds] at haf
        have e10 := ((j4 10 (by simp [haf]))).trans E10.out
        have e23 := ((j4 23 (by simp [haf]))).trans E23.out
        replace j4 := Lib.hid j4
        clear haf hfb
        rw [HLIT.out]
        go_simp
        exact hK.out _ _ (RS.next (wv := wv) (vs := vs) 30 (x := .bool true) (by rw [HLIT.out]; simp only [upv, e10, e23, Nat.reduceBEq, cond_true, cond_false]) (by rw [HG.out]; exact j4.out) hM.out (by rw [HG.out]; exact fun _ _ h => h) (by rw [HG.out]; exact E30.out.symm))
      · intro bf ac wv hfb haf hJ K' hK
        obtain ⟨vs, rfl, hM, j4⟩ := hJ
        replace hK := Lib.hid hK
        replace hM := Lib.hid hM
        rw [HG.out] at j4
        simp [Region.binds] at haf
        have e10 := ((j4 10 (by simp [haf]))).trans E10.out
        have e30 := ((j4 30 (by simp [haf]))).trans E30.out
        replace j4 := Lib.hid j4
        clear haf hfb
        rw [HLIT.out]
        go_simp
        exact hK.out _ _ (RS.next (wv := wv) (vs := vs) 31 (x := .bool true) (by rw [HLIT.out]; simp only [upv, e10, e30, Nat.reduceBEq, cond_true, cond_false]) (by rw [HG.out]; exact j4.out) hM.out (by rw [HG.out]; exact fun _ _ h => h) (by rw [HG.out]; exact E31.out.symm))
      · intro bf ac wv hfb haf hJ K' hK
        obtain ⟨vs, rfl, hM, j4⟩ := hJ
        replace hK := Lib.hid hK
        replace hM := Lib.hid hM
        rw [HG.out] at j4
        simp [Region.binds] at haf
        have e31 := ((j4 31 (by simp [haf]))).trans E31.out
        replace j4 := Lib.hid j4
        clear haf hfb
        rw [HLIT.out]
        go_simp
        exact hK.out _ _ (RS.next (wv := wv) (vs := vs) 32 (x := .bool true) (by rw [HLIT.out]; simp only [upv, e31, Nat.reduceBEq, cond_true, cond_false]) (by rw [HG.out]; exact j4.out) hM.out (by rw [HG.out]; exact fun _ _ h => h) (by rw [HG.out]; exact E32.out.symm))
    · intro bf ac wv hall hJ
      obtain ⟨vs, rfl, hM, j4⟩ := hJ
      rw [HG.out] at j4
      have hlast := ((j4 32 (hall 32 (by decide)))).trans E32.out
      clear j4 hall
      rw [HLIT.out]
      dsimp only
      rw [hlast]
      clear hlast
      have H13 := Lib.hid (H10.out.step hM)
      have H14 := Lib.hid (H11.out.step hM)
      have H15 := Lib.hid (H12.out.step hM HLE.out)
      have H16 := Lib.hid (HKR.out.step hM)
      clear H10 H11 H12 HKR
      replace HLE := Lib.hid (H13.out.le)
      go_wp2
      go_ret
      exact ⟨rfl, ⟨_, _, _, _, _, _, _, _, _, H13.out, fun _ _ h => h⟩, H15.out⟩
end Go.Proofs.Ytkamkkjijjkfdaa
