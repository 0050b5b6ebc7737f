/- Delivery: a known order arrives. -/
import Derived.Test.YtkamkkjijjkfdaaGc
import Derived.StillTailTactics
import Derived.BigQuiet
import Derived.Deep.CutRange
namespace Go.Proofs.Ytkamkkjijjkfdaa
open Go.RowKit

set_option maxRecDepth 100000 in
set_option maxHeartbeats 8000000 in
theorem arrive_known {base n : Nat} {pa ta va aa da : Option Addr} {pc tc vc ac dc : Nat} {nx : Int} {P : List Od} {t : Int} {L : List Bool} {f : Int} {V : List Int} {dn : Int} {A D : List Od} {a b c d : Int} {w : World} (h : WdA base n pa ta va aa da pc tc vc ac dc nx P t L f V dn A D w) (cf : Bool) (hrw : RW t L f V dn a b c d t L f V dn true 0) {pb : Bool} (hpb : (P.any fun x => x.a == a) = pb) (hdb : (D.any fun x => x.a == a) = true) {P' : List Od} (hcf : cfL nx a P true = P') (hsn : SnP nx P) (hpl : P.length ≤ 100000) :
    Calls Try.prog 22 #[.pointer (some ⟨n, 0, none⟩), .agg #[.int .i64 a, .int .i64 b, .int .i64 c, .int .i64 d], .bool cf] w fun e w' => e = .returned (.bool true) ∧ WdQ base n aa da w.heap.size nx (cond cf P' P) t L f V dn A D w' ∧ FB base n da w w' := by
  have H1 := Lib.hid (h.step (al w (.cells #[.int .i64 a, .int .i64 b, .int .i64 c, .int .i64 d] 32)))
  have H2 := Lib.hid (Cs.new w w.heap.size #[.int .i64 a, .int .i64 b, .int .i64 c, .int .i64 d] 32 rfl)
  have HLE := Lib.hid (h.le)
  have H3 := Lib.hid ((FB.refl base n da w).step (al w (.cells #[.int .i64 a, .int .i64 b, .int .i64 c, .int .i64 d] 32)) HLE.out)
  replace HLE := Lib.hid (H1.out.le)
  have HNW := Lib.hid h.cs.2.2
  have HON := Lib.hid (show some w.heap.size ≠ some n from fun q => by have h1 := HNW.out; simp at q; omega)
  have HOD := Lib.hid (show nb da w.heap.size from fun g o q => by have h1 := row_ltN h.dl (Nat.le_refl _) g o q; omega)
  have HPB := Lib.hid hpb
  clear hpb
  have HRW := Lib.hid hrw
  have HAL := Lib.hid (show (L : List Bool).length = 16 from bos_len h.tt)
  clear hrw
  have HDB := Lib.hid hdb
  have HCF := Lib.hid hcf
  have HSN := Lib.hid hsn
  have HPL := Lib.hid hpl
  have HBN := Lib.hid h.bn
  clear hdb hcf hsn hpl
  clear h
  go_enter Try.func22, Try.ntmps22
  go_upto_region 1 with fail
  obtain ⟨wq, hwq⟩ : ∃ z, w.alloc (.cells #[.int .i64 a, .int .i64 b, .int .i64 c, .int .i64 d] 32) = z := ⟨_, rfl⟩
  rw [hwq] at H1 H2 H3 HLE ⊢
  clear hwq
  have xw0 := H1.out.cs.c 0 rfl
  have xw1 := H1.out.cs.c 1 rfl
  have xwz := H1.out.cs.2.2
  have xo0 := H2.out.c 0 rfl
  have xoz := H2.out.2.2
  go_still_tail 7, (by kernel_rfl)
  change wpList _ _ _ _ _ wq.drew
  obtain ⟨w2, hw2⟩ : ∃ z, wq.drew = z := ⟨_, rfl⟩
  have b0 : Below wq.heap.size wq w2 := by rw [← hw2]; exact below_drew _ _
  rw [hw2]
  clear hw2
  clear xw0 xw1 xwz xo0 xoz
  have H4 := Lib.hid (H1.out.step b0)
  have H5 := Lib.hid (H2.out.step b0)
  have H6 := Lib.hid (H3.out.step b0 HLE.out)
  clear H1 H2 H3
  replace HLE := Lib.hid (H4.out.le)
  clear b0
  go_wp2_with fail
  refine (has_any (.slice pa P.length pc) P a _ H4.out.pp).mono ?_
  rintro e w3 ⟨rfl, b3⟩
  have H7 := Lib.hid (H4.out.step b3)
  have H8 := Lib.hid (H5.out.step b3)
  have H9 := Lib.hid (H6.out.step b3 HLE.out)
  clear H4 H5 H6
  replace HLE := Lib.hid (H7.out.le)
  clear b3
  rw [HPB.out]
  go_upto_region 2 with fail
  go_cut [8, 9, 10] from 19 to 28 (fun p1 p2 p3 wc => ∃ (k c1 d1 : Nat) (a1 v1 : Option Addr), p1 = .pointer (some ⟨k, 0, none⟩) ∧ p2 = .bool true ∧ p3 = .int .i64 0 ∧ w3.heap.size ≤ k ∧ Cs wc k #[.int .i64 t, .slice a1 16 c1, .int .i64 f, .slice v1 4 d1, .int .i64 dn] ∧ RvS w3.heap.size L V c1 d1 a1 v1 wc ∧ Below w3.heap.size w3 wc)
  case first =>
    obtain ⟨lit, hlit⟩ : ∃ lit : (Nat → Value) → Act, lit = fun vs => { tmps := List.toArray (Value.pointer (some { block := n, off := 0 }) :: Value.agg #[Value.int IntKind.i64 a, Value.int IntKind.i64 b, Value.int IntKind.i64 c, Value.int IntKind.i64 d] :: Value.bool cf :: undef :: Value.pointer (some { block := w.heap.size, off := 0 }) :: undef :: Value.bool false :: Value.bool pb :: vs 10 :: vs 12 :: vs 13 :: Value.pointer (some { block := n, off := 0 }) :: Value.pointer (some { block := n, off := 0 }) :: Value.pointer (some { block := n, off := 0 }) :: Value.pointer (some { block := n, off := 1 }) :: Value.slice pa P.length pc :: Value.pointer (some { block := w.heap.size, off := 0 }) :: Value.int IntKind.i64 a :: Value.bool pb :: vs 6 :: vs 0 :: vs 1 :: vs 2 :: vs 3 :: vs 4 :: vs 5 :: vs 7 :: vs 8 :: vs 9 :: undef :: undef :: undef :: undef :: undef :: undef :: undef :: undef :: undef :: undef :: undef :: undef :: undef :: undef :: undef :: undef :: undef :: undef :: undef :: undef :: undef :: undef :: undef :: undef :: undef :: undef :: undef :: undef :: undef :: undef :: undef :: undef :: undef :: undef :: undef :: undef :: undef :: undef :: undef :: undef :: undef :: undef :: undef :: undef :: undef :: undef :: undef :: undef :: undef :: undef :: undef :: undef :: undef :: undef :: undef :: undef :: undef :: undef :: undef :: undef :: undef :: undef :: undef :: undef :: undef :: undef :: undef :: undef :: undef :: undef :: undef :: undef :: undef :: undef :: undef :: undef :: undef :: undef :: undef :: undef :: undef :: undef :: undef :: undef :: undef :: undef :: undef :: undef :: undef :: undef :: undef :: undef :: undef :: undef :: undef :: undef :: undef :: undef :: undef :: undef :: undef :: undef :: undef :: undef :: undef :: undef :: undef :: undef :: undef :: undef :: undef :: undef :: undef :: undef :: []), defers := [] } := ⟨_, rfl⟩
    have HLIT := Lib.hid hlit
    clear hlit
    obtain ⟨val, hval⟩ : ∃ val : List Value, val = [.pointer (some ⟨n, 0, none⟩), .pointer (some ⟨n, 0, none⟩), .pointer (some ⟨n, 2, none⟩), .agg #[.int .i64 t, .slice ta 16 tc, .int .i64 f, .slice va 4 vc, .int .i64 dn], .agg #[.int .i64 a, .int .i64 b, .int .i64 c, .int .i64 d], undef, undef, undef, .bool true, .int .i64 0, undef, undef, .bool true, .int .i64 0] := ⟨_, rfl⟩
    have E0 := Lib.hid (show val.getD 0 undef = .pointer (some ⟨n, 0, none⟩) by rw [hval]; rfl)
    have E1 := Lib.hid (show val.getD 1 undef = .pointer (some ⟨n, 0, none⟩) by rw [hval]; rfl)
    have E2 := Lib.hid (show val.getD 2 undef = .pointer (some ⟨n, 2, none⟩) by rw [hval]; rfl)
    have E3 := Lib.hid (show val.getD 3 undef = .agg #[.int .i64 t, .slice ta 16 tc, .int .i64 f, .slice va 4 vc, .int .i64 dn] by rw [hval]; rfl)
    have E4 := Lib.hid (show val.getD 4 undef = .agg #[.int .i64 a, .int .i64 b, .int .i64 c, .int .i64 d] by rw [hval]; rfl)
    have E8 := Lib.hid (show val.getD 8 undef = .bool true by rw [hval]; rfl)
    have E9 := Lib.hid (show val.getD 9 undef = .int .i64 0 by rw [hval]; rfl)
    have E12 := Lib.hid (show val.getD 12 undef = .bool true by rw [hval]; rfl)
    have E13 := Lib.hid (show val.getD 13 undef = .int .i64 0 by rw [hval]; rfl)
    clear hval
    obtain ⟨G, hG0⟩ : ∃ G : Bool → Nat → Value → World → Prop, G = (fun bq iq vq ww => (iq = 5 → Qvt w3.heap.size t L f V dn true 0 bq vq ww) ∧ (iq = 6 → Qvt w3.heap.size t L f V dn true 0 bq vq ww) ∧ (iq = 7 → Qva w3.heap.size t L f V dn bq vq ww) ∧ (iq = 10 → Qvk w3.heap.size t L f V dn bq vq ww) ∧ (iq ≠ 5 → iq ≠ 6 → iq ≠ 7 → iq ≠ 10 → iq ≠ 11 → vq = val.getD iq undef)) := ⟨_, rfl⟩
    have HG := Lib.hid hG0
    clear hG0
    refine region_inv (NS lit 11 (fun p q => (p == 11 && q == 3) || (p == 11 && q == 4) || (p == 11 && q == 5) || (p == 11 && q == 10)) G fun bq wv => (bq = false → Below w3.heap.size w3 wv) ∧ (bq = true → Below w3.heap.size w3 wv)) (by kernel_rfl) (by decide +kernel) ?_ ?_ ?_
    · exact NS.start (fun i => ([undef, undef, undef, undef, undef, undef, undef, undef, undef, undef, undef, undef, undef, undef] : List Value).getD i undef) (by rw [HLIT.out]; rfl) ⟨fun _ => below_drew _ _, fun h => (by cases h)⟩
    · refine ⟨?_, ?_, ?_, ?_, ?_, ?_, ?_, ?_, ?_, ?_, ?_, ?_, ?_, ?_, trivial⟩
      · intro bf ac wv hfb haf hJ K' hK
        obtain ⟨vs, rfl, ja, hB, j4⟩ := hJ
        replace hK := Lib.hid hK
        rw [HG.out] at j4
        replace j4 := Lib.hid (And.intro ja j4)
        replace hB := Lib.hid hB
        clear ja haf
        rw [HLIT.out]
        go_simp
        exact hK.out _ _ (NS.next (vs := vs) 0 (by omega) (fun q h => absurd h (by simp)) (x := .pointer (some ⟨n, 0, none⟩)) (by rw [HLIT.out]; rfl) (by rw [HG.out]; exact j4.out) hB.out (by rw [HG.out]; exact fun _ _ h => h) (by rw [HG.out]; exact ⟨fun h => absurd h (by decide), fun h => absurd h (by decide), fun h => absurd h (by decide), fun h => absurd h (by decide), fun _ _ _ _ _ => E0.out.symm⟩))
      · intro bf ac wv hfb haf hJ K' hK
        obtain ⟨vs, rfl, ja, hB, j4⟩ := hJ
        replace hK := Lib.hid hK
        simp [Region.binds] at haf
        rw [HG.out] at j4
        have e0 := ((j4 0 (by simp [haf])).2.2.2.2 (by decide) (by decide) (by decide) (by decide) (by decide)).trans E0.out
        replace j4 := Lib.hid (And.intro ja j4)
        replace hB := Lib.hid hB
        clear ja haf
        rw [HLIT.out]
        go_simp
        exact hK.out _ _ (NS.next (vs := vs) 1 (by omega) (fun q h => absurd h (by simp)) (x := .pointer (some ⟨n, 0, none⟩)) (by rw [HLIT.out]; simp only [upv, e0, Nat.reduceBEq, cond_true, cond_false]) (by rw [HG.out]; exact j4.out) hB.out (by rw [HG.out]; exact fun _ _ h => h) (by rw [HG.out]; exact ⟨fun h => absurd h (by decide), fun h => absurd h (by decide), fun h => absurd h (by decide), fun h => absurd h (by decide), fun _ _ _ _ _ => E1.out.symm⟩))
      · intro bf ac wv hfb haf hJ K' hK
        obtain ⟨vs, rfl, ja, hB, j4⟩ := hJ
        replace hK := Lib.hid hK
        simp [Region.binds] at haf
        rw [HG.out] at j4
        have e1 := ((j4 1 (by simp [haf])).2.2.2.2 (by decide) (by decide) (by decide) (by decide) (by decide)).trans E1.out
        replace j4 := Lib.hid (And.intro ja j4)
        replace hB := Lib.hid hB
        clear ja haf
        rw [HLIT.out]
        go_simp
        exact hK.out _ _ (NS.next (vs := vs) 2 (by omega) (fun q h => absurd h (by simp)) (x := .pointer (some ⟨n, 2, none⟩)) (by rw [HLIT.out]; simp only [upv, e1, Nat.reduceBEq, cond_true, cond_false]) (by rw [HG.out]; exact j4.out) hB.out (by rw [HG.out]; exact fun _ _ h => h) (by rw [HG.out]; exact ⟨fun h => absurd h (by decide), fun h => absurd h (by decide), fun h => absurd h (by decide), fun h => absurd h (by decide), fun _ _ _ _ _ => E2.out.symm⟩))
      · intro bf ac wv hfb haf hJ K' hK
        obtain ⟨vs, rfl, ja, hB, j4⟩ := hJ
        replace hK := Lib.hid hK
        simp [Region.binds] at haf
        rw [HG.out] at j4
        have e2 := ((j4 2 (by simp [haf])).2.2.2.2 (by decide) (by decide) (by decide) (by decide) (by decide)).trans E2.out
        have hd : bf 11 = false := by
          cases h : bf 11
          · rfl
          · exact absurd ((ja 11 3 rfl h).symm.trans hfb) (by simp)
        have hM := Lib.hid (hB.1 hd)
        replace j4 := Lib.hid (And.intro ja j4)
        replace hB := Lib.hid hB
        clear ja haf
        have xx2 := (H7.out.step hM.out).cs.c 2 rfl
        have xx3 := (H7.out.step hM.out).cs.c 3 rfl
        have xx4 := (H7.out.step hM.out).cs.c 4 rfl
        have xx5 := (H7.out.step hM.out).cs.c 5 rfl
        have xx6 := (H7.out.step hM.out).cs.c 6 rfl
        have xxz := (H7.out.step hM.out).cs.2.2
        rw [HLIT.out]
        go_simp
        exact hK.out _ _ (NS.next (vs := vs) 3 (by omega) (fun q h => absurd h (by simp)) (x := .agg #[.int .i64 t, .slice ta 16 tc, .int .i64 f, .slice va 4 vc, .int .i64 dn]) (by rw [HLIT.out]; simp only [upv, e2, Nat.reduceBEq, cond_true, cond_false]) (by rw [HG.out]; exact j4.out) hB.out (by rw [HG.out]; exact fun _ _ h => h) (by rw [HG.out]; exact ⟨fun h => absurd h (by decide), fun h => absurd h (by decide), fun h => absurd h (by decide), fun h => absurd h (by decide), fun _ _ _ _ _ => E3.out.symm⟩))
      · intro bf ac wv hfb haf hJ K' hK
        obtain ⟨vs, rfl, ja, hB, j4⟩ := hJ
        replace hK := Lib.hid hK
        rw [HG.out] at j4
        have hd : bf 11 = false := by
          cases h : bf 11
          · rfl
          · exact absurd ((ja 11 4 rfl h).symm.trans hfb) (by simp)
        have hM := Lib.hid (hB.1 hd)
        replace j4 := Lib.hid (And.intro ja j4)
        replace hB := Lib.hid hB
        clear ja haf
        have xp0 := (H8.out.step hM.out).c 0 rfl
        have xp1 := (H8.out.step hM.out).c 1 rfl
        have xp2 := (H8.out.step hM.out).c 2 rfl
        have xp3 := (H8.out.step hM.out).c 3 rfl
        have xpz := (H8.out.step hM.out).2.2
        rw [HLIT.out]
        go_simp
        exact hK.out _ _ (NS.next (vs := vs) 4 (by omega) (fun q h => absurd h (by simp)) (x := .agg #[.int .i64 a, .int .i64 b, .int .i64 c, .int .i64 d]) (by rw [HLIT.out]; rfl) (by rw [HG.out]; exact j4.out) hB.out (by rw [HG.out]; exact fun _ _ h => h) (by rw [HG.out]; exact ⟨fun h => absurd h (by decide), fun h => absurd h (by decide), fun h => absurd h (by decide), fun h => absurd h (by decide), fun _ _ _ _ _ => E4.out.symm⟩))
      · intro bf ac wv hfb haf hJ K' hK
        obtain ⟨vs, rfl, ja, hB, j4⟩ := hJ
        replace hK := Lib.hid hK
        simp [Region.binds] at haf
        rw [HG.out] at j4
        have e3 := ((j4 3 (by simp [haf])).2.2.2.2 (by decide) (by decide) (by decide) (by decide) (by decide)).trans E3.out
        have e4 := ((j4 4 (by simp [haf])).2.2.2.2 (by decide) (by decide) (by decide) (by decide) (by decide)).trans E4.out
        have hd : bf 11 = false := by
          cases h : bf 11
          · rfl
          · exact absurd ((ja 11 5 rfl h).symm.trans hfb) (by simp)
        have hM := Lib.hid (hB.1 hd)
        replace j4 := Lib.hid (And.intro ja j4)
        replace hB := Lib.hid hB
        clear ja haf
        rw [HLIT.out]
        go_simp
        go_at_call 13
        refine (rcv_w HRW.out HAL.out _ _ _ (H7.out.step hM.out).tt (H7.out.step hM.out).vv (bos_len H7.out.tt) (ints_len H7.out.vv)).mono ?_
        rintro e w4 ⟨⟨c1, d1, a1, v1, rfl, hr⟩, b4⟩
        exact hK.out _ _ (NS.next (vs := vs) 5 (by omega) (fun q h => absurd h (by simp)) (x := (.tuple #[.agg #[.int .i64 t, .slice a1 16 c1, .int .i64 f, .slice v1 4 d1, .int .i64 dn], .bool true, .int .i64 0])) (by rw [HLIT.out]; simp only [upv, e3, e4, Nat.reduceBEq, cond_true, cond_false]) (by rw [HG.out]; exact j4.out) ⟨fun _ => keep2 b4 hM.out, fun e => absurd (e.symm.trans hd) (by simp)⟩ (by rw [HG.out]; exact fun k hbk h => ⟨fun q => (h.1 q).step b4, fun q => (h.2.1 q).step b4, fun q => (h.2.2.1 q).step b4, fun q => (h.2.2.2.1 q).step b4, h.2.2.2.2⟩) (by rw [HG.out]; exact ⟨fun _ => ⟨c1, d1, a1, v1, rfl, fun _ => ⟨hr.1, hr.2.1, hr.2.2.1, fun g o e => Nat.le_trans hM.out.size (hr.2.2.2.1 g o e), fun g o e => Nat.le_trans hM.out.size (hr.2.2.2.2 g o e)⟩⟩, fun h => absurd h (by decide), fun h => absurd h (by decide), fun h => absurd h (by decide), fun h5 => absurd rfl h5⟩))
      · intro bf ac wv hfb haf hJ K' hK
        obtain ⟨vs, rfl, ja, hB, j4⟩ := hJ
        replace hK := Lib.hid hK
        simp [Region.binds] at haf
        rw [HG.out] at j4
        have e5 := (j4 5 (by simp [haf])).1 rfl
        replace j4 := Lib.hid (And.intro ja j4)
        replace hB := Lib.hid hB
        clear ja haf
        obtain ⟨c1, d1, a1, v1, e5, hr⟩ := e5
        rw [HLIT.out]
        go_simp
        exact hK.out _ _ (NS.next (vs := vs) 6 (by omega) (fun q h => absurd h (by simp)) (x := (.tuple #[.agg #[.int .i64 t, .slice a1 16 c1, .int .i64 f, .slice v1 4 d1, .int .i64 dn], .bool true, .int .i64 0])) (by rw [HLIT.out]; simp only [upv, e5, Nat.reduceBEq, cond_true, cond_false]) (by rw [HG.out]; exact j4.out) hB.out (by rw [HG.out]; exact fun _ _ h => h) (by rw [HG.out]; exact ⟨fun h => absurd h (by decide), fun _ => ⟨c1, d1, a1, v1, rfl, hr⟩, fun h => absurd h (by decide), fun h => absurd h (by decide), fun h5 h6 => absurd rfl h6⟩))
      · intro bf ac wv hfb haf hJ K' hK
        obtain ⟨vs, rfl, ja, hB, j4⟩ := hJ
        replace hK := Lib.hid hK
        simp [Region.binds] at haf
        rw [HG.out] at j4
        have e6 := (j4 6 (by simp [haf])).2.1 rfl
        replace j4 := Lib.hid (And.intro ja j4)
        replace hB := Lib.hid hB
        clear ja haf
        obtain ⟨c1, d1, a1, v1, e6, hr⟩ := e6
        rw [HLIT.out]
        go_simp
        exact hK.out _ _ (NS.next (vs := vs) 7 (by omega) (fun q h => absurd h (by simp)) (x := (.agg #[.int .i64 t, .slice a1 16 c1, .int .i64 f, .slice v1 4 d1, .int .i64 dn])) (by rw [HLIT.out]; simp only [upv, e6, Nat.reduceBEq, cond_true, cond_false]) (by rw [HG.out]; exact j4.out) hB.out (by rw [HG.out]; exact fun _ _ h => h) (by rw [HG.out]; exact ⟨fun h => absurd h (by decide), fun h => absurd h (by decide), fun _ => ⟨c1, d1, a1, v1, rfl, hr⟩, fun h => absurd h (by decide), fun h5 h6 h7 => absurd rfl h7⟩))
      · intro bf ac wv hfb haf hJ K' hK
        obtain ⟨vs, rfl, ja, hB, j4⟩ := hJ
        replace hK := Lib.hid hK
        simp [Region.binds] at haf
        rw [HG.out] at j4
        have e6 := (j4 6 (by simp [haf])).2.1 rfl
        replace j4 := Lib.hid (And.intro ja j4)
        replace hB := Lib.hid hB
        clear ja haf
        obtain ⟨c1, d1, a1, v1, e6, hr⟩ := e6
        rw [HLIT.out]
        go_simp
        exact hK.out _ _ (NS.next (vs := vs) 8 (by omega) (fun q h => absurd h (by simp)) (x := .bool true) (by rw [HLIT.out]; simp only [upv, e6, Nat.reduceBEq, cond_true, cond_false]) (by rw [HG.out]; exact j4.out) hB.out (by rw [HG.out]; exact fun _ _ h => h) (by rw [HG.out]; exact ⟨fun h => absurd h (by decide), fun h => absurd h (by decide), fun h => absurd h (by decide), fun h => absurd h (by decide), fun _ _ _ _ _ => E8.out.symm⟩))
      · intro bf ac wv hfb haf hJ K' hK
        obtain ⟨vs, rfl, ja, hB, j4⟩ := hJ
        replace hK := Lib.hid hK
        simp [Region.binds] at haf
        rw [HG.out] at j4
        have e6 := (j4 6 (by simp [haf])).2.1 rfl
        replace j4 := Lib.hid (And.intro ja j4)
        replace hB := Lib.hid hB
        clear ja haf
        obtain ⟨c1, d1, a1, v1, e6, hr⟩ := e6
        rw [HLIT.out]
        go_simp
        exact hK.out _ _ (NS.next (vs := vs) 9 (by omega) (fun q h => absurd h (by simp)) (x := .int .i64 0) (by rw [HLIT.out]; simp only [upv, e6, Nat.reduceBEq, cond_true, cond_false]) (by rw [HG.out]; exact j4.out) hB.out (by rw [HG.out]; exact fun _ _ h => h) (by rw [HG.out]; exact ⟨fun h => absurd h (by decide), fun h => absurd h (by decide), fun h => absurd h (by decide), fun h => absurd h (by decide), fun _ _ _ _ _ => E9.out.symm⟩))
      · intro bf ac wv hfb haf hJ K' hK
        obtain ⟨vs, rfl, ja, hB, j4⟩ := hJ
        replace hK := Lib.hid hK
        rw [HG.out] at j4
        have hd : bf 11 = false := by
          cases h : bf 11
          · rfl
          · exact absurd ((ja 11 10 rfl h).symm.trans hfb) (by simp)
        have hM := Lib.hid (hB.1 hd)
        replace j4 := Lib.hid (And.intro ja j4)
        replace hB := Lib.hid hB
        clear ja haf
        rw [HLIT.out]
        go_simp
        have b4 := al wv (.cells Z5 30)
        exact hK.out _ _ (NS.next (vs := vs) 10 (by omega) (fun q h => absurd h (by simp)) (x := (.pointer (some ⟨wv.heap.size, 0, none⟩))) (by rw [HLIT.out]; rfl) (by rw [HG.out]; exact j4.out) ⟨fun _ => keep2 b4 hM.out, fun e => absurd (e.symm.trans hd) (by simp)⟩ (by rw [HG.out]; exact fun k hbk h => ⟨fun q => (h.1 q).step b4, fun q => (h.2.1 q).step b4, fun q => (h.2.2.1 q).step b4, fun q => (h.2.2.2.1 q).step b4, h.2.2.2.2⟩) (by rw [HG.out]; exact ⟨fun h => absurd h (by decide), fun h => absurd h (by decide), fun h => absurd h (by decide), fun _ => ⟨wv.heap.size, rfl, hM.out.size, fun _ => BoxN.new wv Z5 30, fun e => absurd (e.symm.trans hd) (by simp)⟩, fun h5 h6 h7 h10 => absurd rfl h10⟩))
      · intro bf ac wv hfb haf hJ K' hK
        obtain ⟨vs, rfl, ja, hB, j4⟩ := hJ
        replace hK := Lib.hid hK
        simp [Region.binds] at haf
        rw [HG.out] at j4
        have e7 := (j4 7 (by simp [haf])).2.2.1 rfl
        have e10 := (j4 10 (by simp [haf])).2.2.2.1 rfl
        rw [hfb] at j4 hB
        try rw [hfb] at e7
        try rw [hfb] at e10
        have HA := Lib.hid (show ∀ q, (fun p q => (p == 11 && q == 3) || (p == 11 && q == 4) || (p == 11 && q == 5) || (p == 11 && q == 10)) 11 q = true → bf q = true from fun q hi => by
          obtain rfl | rfl | rfl | rfl : q = 3 ∨ q = 4 ∨ q = 5 ∨ q = 10 := by simpa [or_assoc] using hi
          all_goals simp [haf])
        have hM := Lib.hid (hB.1 rfl)
        replace j4 := Lib.hid j4
        have HE := Lib.hid (And.intro ja HA.out)
        clear ja haf hB HA
        obtain ⟨k, e10, hk, hz, -⟩ := e10
        replace hz := hz rfl
        obtain ⟨c1, d1, a1, v1, e7, hr⟩ := e7
        replace hr := Lib.hid (hr rfl)
        replace hk := Lib.hid hk
        have HZ := Lib.hid hz
        have HZC := Lib.hid (Cs.of_heap hz)
        have x0 := HZC.out.c 0 rfl
        have y0 := HZC.out.f 0 (by simp [Z5])
        have x1 := HZC.out.c 1 rfl
        have y1 := HZC.out.f 1 (by simp [Z5])
        have x2 := HZC.out.c 2 rfl
        have y2 := HZC.out.f 2 (by simp [Z5])
        have x3 := HZC.out.c 3 rfl
        have y3 := HZC.out.f 3 (by simp [Z5])
        have x4 := HZC.out.c 4 rfl
        have y4 := HZC.out.f 4 (by simp [Z5])
        have xz := HZC.out.2.2
        clear hz
        rw [HLIT.out]
        go_simp
        obtain ⟨p1, p2, p3⟩ := put5_ok t f dn HZ.out hr.out hk.out
        exact hK.out _ _ (NS.put (vs := vs) (w' := put5 wv k t f dn c1 d1 a1 v1) (by rw [HLIT.out]; simp only [e10, e7]) HE.out ⟨fun e => (by cases e), fun _ => hM.out.trans p3⟩ (fun j hj hb => by
          rw [HG.out]
          have q := j4.out j hb
          exact ⟨fun h => (q.1 h).put _, fun h => (q.2.1 h).put _, fun h => (q.2.2.1 h).put _, fun h => by
            subst h
            exact ⟨k, e10, hk.out, fun e => (by cases e), fun _ => ⟨c1, d1, a1, v1, p1, p2⟩⟩, q.2.2.2.2⟩) (fun v => by rw [HG.out]; exact ⟨fun h => absurd h (by decide), fun h => absurd h (by decide), fun h => absurd h (by decide), fun h => absurd h (by decide), fun h5 h6 h7 h10 h11 => absurd rfl h11⟩))
      · intro bf ac wv hfb haf hJ K' hK
        obtain ⟨vs, rfl, ja, hB, j4⟩ := hJ
        replace hK := Lib.hid hK
        simp [Region.binds] at haf
        rw [HG.out] at j4
        have e8 := ((j4 8 (by simp [haf])).2.2.2.2 (by decide) (by decide) (by decide) (by decide) (by decide)).trans E8.out
        replace j4 := Lib.hid (And.intro ja j4)
        replace hB := Lib.hid hB
        clear ja haf
        rw [HLIT.out]
        go_simp
        exact hK.out _ _ (NS.next (vs := vs) 12 (by omega) (fun q h => absurd h (by simp)) (x := .bool true) (by rw [HLIT.out]; simp only [upv, e8, Nat.reduceBEq, cond_true, cond_false]) (by rw [HG.out]; exact j4.out) hB.out (by rw [HG.out]; exact fun _ _ h => h) (by rw [HG.out]; exact ⟨fun h => absurd h (by decide), fun h => absurd h (by decide), fun h => absurd h (by decide), fun h => absurd h (by decide), fun _ _ _ _ _ => E12.out.symm⟩))
      · intro bf ac wv hfb haf hJ K' hK
        obtain ⟨vs, rfl, ja, hB, j4⟩ := hJ
        replace hK := Lib.hid hK
        simp [Region.binds] at haf
        rw [HG.out] at j4
        have e9 := ((j4 9 (by simp [haf])).2.2.2.2 (by decide) (by decide) (by decide) (by decide) (by decide)).trans E9.out
        replace j4 := Lib.hid (And.intro ja j4)
        replace hB := Lib.hid hB
        clear ja haf
        rw [HLIT.out]
        go_simp
        exact hK.out _ _ (NS.next (vs := vs) 13 (by omega) (fun q h => absurd h (by simp)) (x := .int .i64 0) (by rw [HLIT.out]; simp only [upv, e9, Nat.reduceBEq, cond_true, cond_false]) (by rw [HG.out]; exact j4.out) hB.out (by rw [HG.out]; exact fun _ _ h => h) (by rw [HG.out]; exact ⟨fun h => absurd h (by decide), fun h => absurd h (by decide), fun h => absurd h (by decide), fun h => absurd h (by decide), fun _ _ _ _ _ => E13.out.symm⟩))
    · intro bf ac wv hall hJ
      obtain ⟨vs, rfl, -, hB, j4⟩ := hJ
      rw [HG.out] at j4
      rw [hall 11 (by decide)] at hB j4
      have hM := Lib.hid (hB.2 rfl)
      clear hB
      obtain ⟨k, e10, hk, -, hp⟩ := (j4 10 (hall 10 (by decide))).2.2.2.1 rfl
      obtain ⟨c1, d1, a1, v1, hc, hr⟩ := hp rfl
      have e12 := ((j4 12 (hall 12 (by decide))).2.2.2.2 (by decide) (by decide) (by decide) (by decide) (by decide)).trans E12.out
      have e13 := ((j4 13 (hall 13 (by decide))).2.2.2.2 (by decide) (by decide) (by decide) (by decide) (by decide)).trans E13.out
      clear j4 hall
      rw [HLIT.out]
      dsimp only
      rw [e10, e12, e13]
      clear e10 e12 e13
      go_wp2
      go_meet
      exact ⟨k, c1, d1, a1, v1, rfl, rfl, rfl, hk, hc, hr, hM.out⟩
  case rest =>
    obtain ⟨k, c1, d1, a1, v1, rfl, rfl, rfl, hk, hc, hr, b5⟩ := hcut
    have HKK := Lib.hid hk
    have HKR := Lib.hid hc
    have HRV := Lib.hid hr
    clear hk hc hr
    have HWB := Lib.hid H7.out
    have H10 := Lib.hid (H7.out.step b5)
    have H11 := Lib.hid (H8.out.step b5)
    have H12 := Lib.hid (H9.out.step b5 HLE.out)
    clear H7 H8 H9
    replace HLE := Lib.hid (H10.out.le)
    clear b5
    have HNN := Lib.hid (show nb a1 n ∧ nb v1 n from ⟨nb_fresh HRV.out.2.2.2.1 HWB.out.cs.2.2, nb_fresh HRV.out.2.2.2.2 HWB.out.cs.2.2⟩)
    have HNA := Lib.hid (show nb2 a1 aa ∧ nb2 v1 aa from ⟨nb2_fresh HRV.out.2.2.2.1 (row_ltN HWB.out.al (Nat.le_refl _)), nb2_fresh HRV.out.2.2.2.2 (row_ltN HWB.out.al (Nat.le_refl _))⟩)
    have HND := Lib.hid (show nb2 a1 da ∧ nb2 v1 da from ⟨nb2_fresh HRV.out.2.2.2.1 (row_ltN HWB.out.dl (Nat.le_refl _)), nb2_fresh HRV.out.2.2.2.2 (row_ltN HWB.out.dl (Nat.le_refl _))⟩)
    have HKN := Lib.hid (show some k ≠ some n from fun q => by have h1 := HWB.out.cs.2.2; have h2 := HKK.out; simp at q; omega)
    have HKD := Lib.hid (show nb da k from fun g o q => by have h1 := row_ltN HWB.out.dl (Nat.le_refl _) g o q; have h2 := HKK.out; omega)
    clear HWB
    go_upto_region 7 with fail
    have xk4 := HKR.out.c 4 rfl
    have xkz := HKR.out.2.2
    have xw6 := H10.out.cs.c 6 rfl
    have xwz := H10.out.cs.2.2
    go_quiet (fail)
    obtain ⟨wd, hwd⟩ : ∃ z, wc.drewN nq = z := ⟨_, rfl⟩
    have b6 : Below wc.heap.size wc wd := by rw [← hwd]; exact below_drewN' _ _ _
    rw [hwd]
    clear hwd
    replace HRV := Lib.hid (HRV.out.step b6)
    clear xk4 xkz xw6 xwz
    have H13 := Lib.hid (H10.out.step b6)
    have H14 := Lib.hid (H11.out.step b6)
    have H15 := Lib.hid (H12.out.step b6 HLE.out)
    have H16 := Lib.hid (HKR.out.step b6)
    clear H10 H11 H12 HKR
    replace HLE := Lib.hid (H13.out.le)
    clear b6
    go_upto_region 8 with fail
    obtain ⟨lit, hlit⟩ : ∃ lit : (Nat → Value) → Act, lit = fun vs => { tmps := List.toArray (Value.pointer (some { block := n, off := 0 }) :: Value.agg #[Value.int IntKind.i64 a, Value.int IntKind.i64 b, Value.int IntKind.i64 c, Value.int IntKind.i64 d] :: Value.bool cf :: undef :: Value.pointer (some { block := w.heap.size, off := 0 }) :: undef :: Value.bool false :: Value.bool pb :: Value.pointer (some { block := k, off := 0 }) :: Value.bool true :: Value.int IntKind.i64 0 :: Value.pointer (some { block := n, off := 0 }) :: Value.pointer (some { block := n, off := 0 }) :: Value.pointer (some { block := n, off := 0 }) :: Value.pointer (some { block := n, off := 1 }) :: Value.slice pa P.length pc :: Value.pointer (some { block := w.heap.size, off := 0 }) :: Value.int IntKind.i64 a :: Value.bool pb :: u19 :: u20 :: u21 :: u22 :: u23 :: u24 :: u25 :: u26 :: u27 :: u28 :: Value.int IntKind.i64 0 :: Value.bool false :: undef :: undef :: undef :: undef :: undef :: undef :: undef :: undef :: undef :: undef :: undef :: undef :: undef :: undef :: undef :: undef :: undef :: undef :: undef :: undef :: undef :: undef :: undef :: undef :: undef :: undef :: undef :: undef :: undef :: undef :: undef :: undef :: Value.bool true :: Value.bool false :: Value.pointer (some { block := k, off := 4 }) :: Value.int IntKind.i64 dn :: Value.pointer (some { block := n, off := 0 }) :: Value.pointer (some { block := n, off := 0 }) :: Value.pointer (some { block := n, off := 2 }) :: Value.pointer (some { block := n, off := 6 }) :: Value.int IntKind.i64 dn :: Value.bool true :: vs 0 :: vs 1 :: vs 2 :: vs 3 :: vs 4 :: vs 5 :: vs 6 :: vs 7 :: vs 8 :: vs 9 :: vs 10 :: vs 11 :: vs 12 :: vs 13 :: vs 14 :: vs 15 :: vs 16 :: undef :: undef :: undef :: undef :: undef :: undef :: undef :: undef :: undef :: undef :: undef :: undef :: undef :: undef :: undef :: undef :: undef :: undef :: undef :: undef :: undef :: undef :: undef :: undef :: undef :: undef :: undef :: undef :: undef :: undef :: undef :: undef :: undef :: undef :: undef :: undef :: undef :: undef :: undef :: undef :: undef :: undef :: undef :: undef :: undef :: undef :: undef :: undef :: undef :: undef :: undef :: undef :: undef :: []), defers := [] } := ⟨_, rfl⟩
    have HLIT := Lib.hid hlit
    clear hlit
    obtain ⟨val, hval⟩ : ∃ val : List Value, val = [.agg #[.int .i64 t, .slice a1 16 c1, .int .i64 f, .slice v1 4 d1, .int .i64 dn], .pointer (some ⟨n, 0, none⟩), .pointer (some ⟨n, 0, none⟩), .pointer (some ⟨n, 2, none⟩), .agg #[.int .i64 t, .slice ta 16 tc, .int .i64 f, .slice va 4 vc, .int .i64 dn], .bool true, .bool false, .bool false, .pointer (some ⟨n, 0, none⟩), .pointer (some ⟨n, 0, none⟩), .pointer (some ⟨n, 8, none⟩), .slice da D.length dc, .pointer (some ⟨w.heap.size, 0, none⟩), .int .i64 a, .bool true, .bool false, .bool false] := ⟨_, rfl⟩
    have E0 := Lib.hid (show val.getD 0 undef = .agg #[.int .i64 t, .slice a1 16 c1, .int .i64 f, .slice v1 4 d1, .int .i64 dn] by rw [hval]; rfl)
    have E1 := Lib.hid (show val.getD 1 undef = .pointer (some ⟨n, 0, none⟩) by rw [hval]; rfl)
    have E2 := Lib.hid (show val.getD 2 undef = .pointer (some ⟨n, 0, none⟩) by rw [hval]; rfl)
    have E3 := Lib.hid (show val.getD 3 undef = .pointer (some ⟨n, 2, none⟩) by rw [hval]; rfl)
    have E4 := Lib.hid (show val.getD 4 undef = .agg #[.int .i64 t, .slice ta 16 tc, .int .i64 f, .slice va 4 vc, .int .i64 dn] by rw [hval]; rfl)
    have E5 := Lib.hid (show val.getD 5 undef = .bool true by rw [hval]; rfl)
    have E6 := Lib.hid (show val.getD 6 undef = .bool false by rw [hval]; rfl)
    have E7 := Lib.hid (show val.getD 7 undef = .bool false by rw [hval]; rfl)
    have E8 := Lib.hid (show val.getD 8 undef = .pointer (some ⟨n, 0, none⟩) by rw [hval]; rfl)
    have E9 := Lib.hid (show val.getD 9 undef = .pointer (some ⟨n, 0, none⟩) by rw [hval]; rfl)
    have E10 := Lib.hid (show val.getD 10 undef = .pointer (some ⟨n, 8, none⟩) by rw [hval]; rfl)
    have E11 := Lib.hid (show val.getD 11 undef = .slice da D.length dc by rw [hval]; rfl)
    have E12 := Lib.hid (show val.getD 12 undef = .pointer (some ⟨w.heap.size, 0, none⟩) by rw [hval]; rfl)
    have E13 := Lib.hid (show val.getD 13 undef = .int .i64 a by rw [hval]; rfl)
    have E14 := Lib.hid (show val.getD 14 undef = .bool true by rw [hval]; rfl)
    have E15 := Lib.hid (show val.getD 15 undef = .bool false by rw [hval]; rfl)
    have E16 := Lib.hid (show val.getD 16 undef = .bool false by rw [hval]; rfl)
    clear hval
    obtain ⟨G, hG0⟩ : ∃ G : Nat → Value → World → Prop, G = (fun i v w => (v = val.getD i undef)) := ⟨_, rfl⟩
    have HG := Lib.hid hG0
    clear hG0
    refine region_inv (RS lit wd G) (by kernel_rfl) (by decide +kernel) ?_ ?_ ?_
    · exact ⟨fun i => ([undef, undef, undef, undef, undef, undef, undef, undef, undef, undef, undef, undef, undef, undef, undef, undef, undef] : List Value).getD i undef, (by rw [HLIT.out]; rfl), below_drew _ _, fun i h => by cases h⟩
    · refine ⟨?_, ?_, ?_, ?_, ?_, ?_, ?_, ?_, ?_, ?_, ?_, ?_, ?_, ?_, ?_, ?_, ?_, trivial⟩
      · intro bf ac wv hfb haf hJ K' hK
        obtain ⟨vs, rfl, hM, j4⟩ := hJ
        replace hK := Lib.hid hK
        replace hM := Lib.hid hM
        rw [HG.out] at j4
        replace j4 := Lib.hid j4
        clear haf hfb
        have xk0 := (H16.out.step hM.out).c 0 rfl
        have xk1 := (H16.out.step hM.out).c 1 rfl
        have xk2 := (H16.out.step hM.out).c 2 rfl
        have xk3 := (H16.out.step hM.out).c 3 rfl
        have xk4 := (H16.out.step hM.out).c 4 rfl
        have xkz := (H16.out.step hM.out).2.2
        rw [HLIT.out]
        go_simp
        exact hK.out _ _ (RS.next (wv := wv) (vs := vs) 0 (x := .agg #[.int .i64 t, .slice a1 16 c1, .int .i64 f, .slice v1 4 d1, .int .i64 dn]) (by rw [HLIT.out]; rfl) (by rw [HG.out]; exact j4.out) hM.out (by rw [HG.out]; exact fun _ _ h => h) (by rw [HG.out]; exact E0.out.symm))
      · intro bf ac wv hfb haf hJ K' hK
        obtain ⟨vs, rfl, hM, j4⟩ := hJ
        replace hK := Lib.hid hK
        replace hM := Lib.hid hM
        rw [HG.out] at j4
        replace j4 := Lib.hid j4
        clear haf hfb
        rw [HLIT.out]
        go_simp
        exact hK.out _ _ (RS.next (wv := wv) (vs := vs) 1 (x := .pointer (some ⟨n, 0, none⟩)) (by rw [HLIT.out]; rfl) (by rw [HG.out]; exact j4.out) hM.out (by rw [HG.out]; exact fun _ _ h => h) (by rw [HG.out]; exact E1.out.symm))
      · intro bf ac wv hfb haf hJ K' hK
        obtain ⟨vs, rfl, hM, j4⟩ := hJ
        replace hK := Lib.hid hK
        replace hM := Lib.hid hM
        rw [HG.out] at j4
        simp [Region.binds] at haf
        have e1 := ((j4 1 (by simp [haf]))).trans E1.out
        replace j4 := Lib.hid j4
        clear haf hfb
        rw [HLIT.out]
        go_simp
        exact hK.out _ _ (RS.next (wv := wv) (vs := vs) 2 (x := .pointer (some ⟨n, 0, none⟩)) (by rw [HLIT.out]; simp only [upv, e1, Nat.reduceBEq, cond_true, cond_false]) (by rw [HG.out]; exact j4.out) hM.out (by rw [HG.out]; exact fun _ _ h => h) (by rw [HG.out]; exact E2.out.symm))
      · intro bf ac wv hfb haf hJ K' hK
        obtain ⟨vs, rfl, hM, j4⟩ := hJ
        replace hK := Lib.hid hK
        replace hM := Lib.hid hM
        rw [HG.out] at j4
        simp [Region.binds] at haf
        have e2 := ((j4 2 (by simp [haf]))).trans E2.out
        replace j4 := Lib.hid j4
        clear haf hfb
        rw [HLIT.out]
        go_simp
        exact hK.out _ _ (RS.next (wv := wv) (vs := vs) 3 (x := .pointer (some ⟨n, 2, none⟩)) (by rw [HLIT.out]; simp only [upv, e2, Nat.reduceBEq, cond_true, cond_false]) (by rw [HG.out]; exact j4.out) hM.out (by rw [HG.out]; exact fun _ _ h => h) (by rw [HG.out]; exact E3.out.symm))
      · intro bf ac wv hfb haf hJ K' hK
        obtain ⟨vs, rfl, hM, j4⟩ := hJ
        replace hK := Lib.hid hK
        replace hM := Lib.hid hM
        rw [HG.out] at j4
        simp [Region.binds] at haf
        have e3 := ((j4 3 (by simp [haf]))).trans E3.out
        replace j4 := Lib.hid j4
        clear haf hfb
        have xx2 := (H13.out.step hM.out).cs.c 2 rfl
        have xx3 := (H13.out.step hM.out).cs.c 3 rfl
        have xx4 := (H13.out.step hM.out).cs.c 4 rfl
        have xx5 := (H13.out.step hM.out).cs.c 5 rfl
        have xx6 := (H13.out.step hM.out).cs.c 6 rfl
        have xxz := (H13.out.step hM.out).cs.2.2
        rw [HLIT.out]
        go_simp
        exact hK.out _ _ (RS.next (wv := wv) (vs := vs) 4 (x := .agg #[.int .i64 t, .slice ta 16 tc, .int .i64 f, .slice va 4 vc, .int .i64 dn]) (by rw [HLIT.out]; simp only [upv, e3, Nat.reduceBEq, cond_true, cond_false]) (by rw [HG.out]; exact j4.out) hM.out (by rw [HG.out]; exact fun _ _ h => h) (by rw [HG.out]; exact E4.out.symm))
      · intro bf ac wv hfb haf hJ K' hK
        obtain ⟨vs, rfl, hM, j4⟩ := hJ
        replace hK := Lib.hid hK
        replace hM := Lib.hid hM
        rw [HG.out] at j4
        simp [Region.binds] at haf
        have e0 := ((j4 0 (by simp [haf]))).trans E0.out
        have e4 := ((j4 4 (by simp [haf]))).trans E4.out
        replace j4 := Lib.hid j4
        clear haf hfb
        rw [HLIT.out]
        go_simp
        go_at_call 16
        refine (samer_w t f dn L V HAL.out a1 v1 ta va c1 d1 tc vc _ (HRV.out.step hM.out).2.1 (HRV.out.step hM.out).2.2.1 (H13.out.step hM.out).tt (H13.out.step hM.out).vv).mono ?_
        rintro e w4 ⟨rfl, b4⟩
        exact hK.out _ _ (RS.next (wv := wv) (vs := vs) 5 (x := .bool true) (by rw [HLIT.out]; simp only [upv, e0, e4, Nat.reduceBEq, cond_true, cond_false]) (by rw [HG.out]; exact j4.out) (keep2 b4 hM.out) (by rw [HG.out]; exact fun _ _ h => h) (by rw [HG.out]; exact E5.out.symm))
      · intro bf ac wv hfb haf hJ K' hK
        obtain ⟨vs, rfl, hM, j4⟩ := hJ
        replace hK := Lib.hid hK
        replace hM := Lib.hid hM
        rw [HG.out] at j4
        simp [Region.binds] at haf
        have e5 := ((j4 5 (by simp [haf]))).trans E5.out
        replace j4 := Lib.hid j4
        clear haf hfb
        rw [HLIT.out]
        go_simp
        exact hK.out _ _ (RS.next (wv := wv) (vs := vs) 6 (x := .bool false) (by rw [HLIT.out]; simp only [upv, e5, Nat.reduceBEq, cond_true, cond_false]) (by rw [HG.out]; exact j4.out) hM.out (by rw [HG.out]; exact fun _ _ h => h) (by rw [HG.out]; exact E6.out.symm))
      · intro bf ac wv hfb haf hJ K' hK
        obtain ⟨vs, rfl, hM, j4⟩ := hJ
        replace hK := Lib.hid hK
        replace hM := Lib.hid hM
        rw [HG.out] at j4
        simp [Region.binds] at haf
        have e6 := ((j4 6 (by simp [haf]))).trans E6.out
        replace j4 := Lib.hid j4
        clear haf hfb
        rw [HLIT.out]
        go_simp
        exact hK.out _ _ (RS.next (wv := wv) (vs := vs) 7 (x := .bool false) (by rw [HLIT.out]; simp only [upv, e6, Nat.reduceBEq, cond_true, cond_false]) (by rw [HG.out]; exact j4.out) hM.out (by rw [HG.out]; exact fun _ _ h => h) (by rw [HG.out]; exact E7.out.symm))
      · intro bf ac wv hfb haf hJ K' hK
        obtain ⟨vs, rfl, hM, j4⟩ := hJ
        replace hK := Lib.hid hK
        replace hM := Lib.hid hM
        rw [HG.out] at j4
        simp [Region.binds] at haf
        have e7 := ((j4 7 (by simp [haf]))).trans E7.out
        replace j4 := Lib.hid j4
        clear haf hfb
        rw [HLIT.out]
        go_simp
        exact hK.out _ _ (RS.next (wv := wv) (vs := vs) 8 (x := .pointer (some ⟨n, 0, none⟩)) (by rw [HLIT.out]; simp only [upv, e7, Nat.reduceBEq, cond_true, cond_false]) (by rw [HG.out]; exact j4.out) hM.out (by rw [HG.out]; exact fun _ _ h => h) (by rw [HG.out]; exact E8.out.symm))
      · intro bf ac wv hfb haf hJ K' hK
        obtain ⟨vs, rfl, hM, j4⟩ := hJ
        replace hK := Lib.hid hK
        replace hM := Lib.hid hM
        rw [HG.out] at j4
        simp [Region.binds] at haf
        have e7 := ((j4 7 (by simp [haf]))).trans E7.out
        have e8 := ((j4 8 (by simp [haf]))).trans E8.out
        replace j4 := Lib.hid j4
        clear haf hfb
        rw [HLIT.out]
        go_simp
        exact hK.out _ _ (RS.next (wv := wv) (vs := vs) 9 (x := .pointer (some ⟨n, 0, none⟩)) (by rw [HLIT.out]; simp only [upv, e7, e8, Nat.reduceBEq, cond_true, cond_false]) (by rw [HG.out]; exact j4.out) hM.out (by rw [HG.out]; exact fun _ _ h => h) (by rw [HG.out]; exact E9.out.symm))
      · intro bf ac wv hfb haf hJ K' hK
        obtain ⟨vs, rfl, hM, j4⟩ := hJ
        replace hK := Lib.hid hK
        replace hM := Lib.hid hM
        rw [HG.out] at j4
        simp [Region.binds] at haf
        have e7 := ((j4 7 (by simp [haf]))).trans E7.out
        have e9 := ((j4 9 (by simp [haf]))).trans E9.out
        replace j4 := Lib.hid j4
        clear haf hfb
        rw [HLIT.out]
        go_simp
        exact hK.out _ _ (RS.next (wv := wv) (vs := vs) 10 (x := .pointer (some ⟨n, 8, none⟩)) (by rw [HLIT.out]; simp only [upv, e7, e9, Nat.reduceBEq, cond_true, cond_false]) (by rw [HG.out]; exact j4.out) hM.out (by rw [HG.out]; exact fun _ _ h => h) (by rw [HG.out]; exact E10.out.symm))
      · intro bf ac wv hfb haf hJ K' hK
        obtain ⟨vs, rfl, hM, j4⟩ := hJ
        replace hK := Lib.hid hK
        replace hM := Lib.hid hM
        rw [HG.out] at j4
        simp [Region.binds] at haf
        have e7 := ((j4 7 (by simp [haf]))).trans E7.out
        have e10 := ((j4 10 (by simp [haf]))).trans E10.out
        replace j4 := Lib.hid j4
        clear haf hfb
        have xx8 := (H13.out.step hM.out).cs.c 8 rfl
        have xxz := (H13.out.step hM.out).cs.2.2
        rw [HLIT.out]
        go_simp
        exact hK.out _ _ (RS.next (wv := wv) (vs := vs) 11 (x := .slice da D.length dc) (by rw [HLIT.out]; simp only [upv, e7, e10, Nat.reduceBEq, cond_true, cond_false]) (by rw [HG.out]; exact j4.out) hM.out (by rw [HG.out]; exact fun _ _ h => h) (by rw [HG.out]; exact E11.out.symm))
      · intro bf ac wv hfb haf hJ K' hK
        obtain ⟨vs, rfl, hM, j4⟩ := hJ
        replace hK := Lib.hid hK
        replace hM := Lib.hid hM
        rw [HG.out] at j4
        simp [Region.binds] at haf
        have e7 := ((j4 7 (by simp [haf]))).trans E7.out
        replace j4 := Lib.hid j4
        clear haf hfb
        rw [HLIT.out]
        go_simp
        exact hK.out _ _ (RS.next (wv := wv) (vs := vs) 12 (x := .pointer (some ⟨w.heap.size, 0, none⟩)) (by rw [HLIT.out]; simp only [upv, e7, Nat.reduceBEq, cond_true, cond_false]) (by rw [HG.out]; exact j4.out) hM.out (by rw [HG.out]; exact fun _ _ h => h) (by rw [HG.out]; exact E12.out.symm))
      · intro bf ac wv hfb haf hJ K' hK
        obtain ⟨vs, rfl, hM, j4⟩ := hJ
        replace hK := Lib.hid hK
        replace hM := Lib.hid hM
        rw [HG.out] at j4
        simp [Region.binds] at haf
        have e7 := ((j4 7 (by simp [haf]))).trans E7.out
        have e12 := ((j4 12 (by simp [haf]))).trans E12.out
        replace j4 := Lib.hid j4
        clear haf hfb
        have xp0 := (H14.out.step hM.out).c 0 rfl
        have xpz := (H14.out.step hM.out).2.2
        rw [HLIT.out]
        go_simp
        exact hK.out _ _ (RS.next (wv := wv) (vs := vs) 13 (x := .int .i64 a) (by rw [HLIT.out]; simp only [upv, e7, e12, Nat.reduceBEq, cond_true, cond_false]) (by rw [HG.out]; exact j4.out) hM.out (by rw [HG.out]; exact fun _ _ h => h) (by rw [HG.out]; exact E13.out.symm))
      · intro bf ac wv hfb haf hJ K' hK
        obtain ⟨vs, rfl, hM, j4⟩ := hJ
        replace hK := Lib.hid hK
        replace hM := Lib.hid hM
        rw [HG.out] at j4
        simp [Region.binds] at haf
        have e7 := ((j4 7 (by simp [haf]))).trans E7.out
        have e11 := ((j4 11 (by simp [haf]))).trans E11.out
        have e13 := ((j4 13 (by simp [haf]))).trans E13.out
        replace j4 := Lib.hid j4
        clear haf hfb
        rw [HLIT.out]
        go_simp
        go_at_call 23
        refine (has_any (.slice da D.length dc) D a _ (ods_of_row rfl (H13.out.step hM.out).dl)).mono ?_
        rintro e w4 ⟨rfl, b4⟩
        rw [HDB.out]
        exact hK.out _ _ (RS.next (wv := wv) (vs := vs) 14 (x := .bool true) (by rw [HLIT.out]; simp only [upv, e7, e11, e13, Nat.reduceBEq, cond_true, cond_false]) (by rw [HG.out]; exact j4.out) (keep2 b4 hM.out) (by rw [HG.out]; exact fun _ _ h => h) (by rw [HG.out]; exact E14.out.symm))
      · intro bf ac wv hfb haf hJ K' hK
        obtain ⟨vs, rfl, hM, j4⟩ := hJ
        replace hK := Lib.hid hK
        replace hM := Lib.hid hM
        rw [HG.out] at j4
        simp [Region.binds] at haf
        have e7 := ((j4 7 (by simp [haf]))).trans E7.out
        have e14 := ((j4 14 (by simp [haf]))).trans E14.out
        replace j4 := Lib.hid j4
        clear haf hfb
        rw [HLIT.out]
        go_simp
        exact hK.out _ _ (RS.next (wv := wv) (vs := vs) 15 (x := .bool false) (by rw [HLIT.out]; simp only [upv, e7, e14, Nat.reduceBEq, cond_true, cond_false]) (by rw [HG.out]; exact j4.out) hM.out (by rw [HG.out]; exact fun _ _ h => h) (by rw [HG.out]; exact E15.out.symm))
      · intro bf ac wv hfb haf hJ K' hK
        obtain ⟨vs, rfl, hM, j4⟩ := hJ
        replace hK := Lib.hid hK
        replace hM := Lib.hid hM
        rw [HG.out] at j4
        simp [Region.binds] at haf
        have e7 := ((j4 7 (by simp [haf]))).trans E7.out
        have e15 := ((j4 15 (by simp [haf]))).trans E15.out
        replace j4 := Lib.hid j4
        clear haf hfb
        rw [HLIT.out]
        go_simp
        exact hK.out _ _ (RS.next (wv := wv) (vs := vs) 16 (x := .bool false) (by rw [HLIT.out]; simp only [upv, e7, e15, Nat.reduceBEq, cond_true, cond_false]) (by rw [HG.out]; exact j4.out) hM.out (by rw [HG.out]; exact fun _ _ h => h) (by rw [HG.out]; exact E16.out.symm))
    · intro bf ac wv hall hJ
      obtain ⟨vs, rfl, hM, j4⟩ := hJ
      rw [HG.out] at j4
      have hlast := ((j4 16 (hall 16 (by decide)))).trans E16.out
      clear j4 hall
      rw [HLIT.out]
      dsimp only
      rw [hlast]
      clear hlast HLIT HG
      generalize vs = us8
      replace HRV := Lib.hid (HRV.out.step hM)
      have H17 := Lib.hid (H13.out.step hM)
      have H18 := Lib.hid (H14.out.step hM)
      have H19 := Lib.hid (H15.out.step hM HLE.out)
      have H20 := Lib.hid (H16.out.step hM)
      clear H13 H14 H15 H16
      replace HLE := Lib.hid (H17.out.le)
      clear hM
      obtain ⟨we, hwe⟩ : ∃ z, wv = z := ⟨_, rfl⟩
      rw [hwe] at H17 H18 H19 H20 HRV HLE ⊢
      clear hwe
      go_upto_region 13 with fail
      have xk0 := H20.out.c 0 rfl
      have xk1 := H20.out.c 1 rfl
      have xk2 := H20.out.c 2 rfl
      have xk3 := H20.out.c 3 rfl
      have xk4 := H20.out.c 4 rfl
      have xkz := H20.out.2.2
      have xw2 := H17.out.cs.c 2 rfl
      have xw3 := H17.out.cs.c 3 rfl
      have xw4 := H17.out.cs.c 4 rfl
      have xw5 := H17.out.cs.c 5 rfl
      have xw6 := H17.out.cs.c 6 rfl
      have yw2 := H17.out.cs.f 2 (by simp)
      have yw3 := H17.out.cs.f 3 (by simp)
      have yw4 := H17.out.cs.f 4 (by simp)
      have yw5 := H17.out.cs.f 5 (by simp)
      have yw6 := H17.out.cs.f 6 (by simp)
      have xwz := H17.out.cs.2.2
      have HS := Lib.hid (H17.out.setr (t' := t) (f' := f) (dn' := dn) HRV.out.2.1 HRV.out.1 HRV.out.2.2.1 HNN.out.1 HNN.out.2 HNA.out.1 HNA.out.2 HND.out.1 HND.out.2)
      have HSB := Lib.hid (show FB base n da w (((((we.setCell ⟨n, 2, none⟩ (.int .i64 t)).setCell ⟨n, 3, none⟩ (.slice a1 16 c1)).setCell ⟨n, 4, none⟩ (.int .i64 f)).setCell ⟨n, 5, none⟩ (.slice v1 4 d1)).setCell ⟨n, 6, none⟩ (.int .i64 dn)) from (((((H19.out.setN HBN.out 2 _).setN HBN.out 3 _).setN HBN.out 4 _).setN HBN.out 5 _).setN HBN.out 6 _))
      have HNO := Lib.hid (show w.heap.size ≠ n from fun q => by have h1 := HNW.out; omega)
      have HOY := Lib.hid (show Cs (((((we.setCell ⟨n, 2, none⟩ (.int .i64 t)).setCell ⟨n, 3, none⟩ (.slice a1 16 c1)).setCell ⟨n, 4, none⟩ (.int .i64 f)).setCell ⟨n, 5, none⟩ (.slice v1 4 d1)).setCell ⟨n, 6, none⟩ (.int .i64 dn)) w.heap.size #[.int .i64 a, .int .i64 b, .int .i64 c, .int .i64 d] from cs_oth (cs_oth (cs_oth (cs_oth (cs_oth (H18.out) HNO.out) HNO.out) HNO.out) HNO.out) HNO.out)
      go_upto_region 14 with fail
      obtain ⟨wf, hwf⟩ : ∃ z, (((((we.setCell ⟨n, 2, none⟩ (.int .i64 t)).setCell ⟨n, 3, none⟩ (.slice a1 16 c1)).setCell ⟨n, 4, none⟩ (.int .i64 f)).setCell ⟨n, 5, none⟩ (.slice v1 4 d1)).setCell ⟨n, 6, none⟩ (.int .i64 dn)) = z := ⟨_, rfl⟩
      rw [hwf] at HS HSB HOY ⊢
      clear hwf xk0 xk1 xk2 xk3 xk4 xkz xw2 xw3 xw4 xw5 xw6 yw2 yw3 yw4 yw5 yw6 xwz
      clear H17 H18 H19 H20
      have HLE := Lib.hid HS.out.le
      cases cf
      · go_wp2
        go_ret
        exact ⟨rfl, ⟨_, _, _, _, _, _, _, _, _, HS.out, fun _ _ h => h⟩, HSB.out⟩
      · go_upto_region 15 with fail
        obtain ⟨lit, hlit⟩ : ∃ lit : (Nat → Value) → Act, lit = fun vs => { tmps := List.toArray (Value.pointer (some { block := n, off := 0 }) :: Value.agg #[Value.int IntKind.i64 a, Value.int IntKind.i64 b, Value.int IntKind.i64 c, Value.int IntKind.i64 d] :: Value.bool true :: undef :: Value.pointer (some { block := w.heap.size, off := 0 }) :: undef :: Value.bool false :: Value.bool pb :: Value.pointer (some { block := k, off := 0 }) :: Value.bool true :: Value.int IntKind.i64 0 :: Value.pointer (some { block := n, off := 0 }) :: Value.pointer (some { block := n, off := 0 }) :: Value.pointer (some { block := n, off := 0 }) :: Value.pointer (some { block := n, off := 1 }) :: Value.slice pa P.length pc :: Value.pointer (some { block := w.heap.size, off := 0 }) :: Value.int IntKind.i64 a :: Value.bool pb :: u19 :: u20 :: u21 :: u22 :: u23 :: u24 :: u25 :: u26 :: u27 :: u28 :: Value.int IntKind.i64 0 :: Value.bool false :: undef :: undef :: undef :: undef :: undef :: undef :: undef :: undef :: undef :: undef :: undef :: undef :: undef :: undef :: undef :: undef :: undef :: undef :: undef :: undef :: undef :: undef :: undef :: undef :: undef :: undef :: undef :: undef :: undef :: undef :: undef :: undef :: Value.bool true :: Value.bool false :: Value.pointer (some { block := k, off := 4 }) :: Value.int IntKind.i64 dn :: Value.pointer (some { block := n, off := 0 }) :: Value.pointer (some { block := n, off := 0 }) :: Value.pointer (some { block := n, off := 2 }) :: Value.pointer (some { block := n, off := 6 }) :: Value.int IntKind.i64 dn :: Value.bool true :: us8 0 :: us8 1 :: us8 2 :: us8 3 :: us8 4 :: us8 5 :: us8 6 :: us8 7 :: us8 8 :: us8 9 :: us8 10 :: us8 11 :: us8 12 :: us8 13 :: us8 14 :: us8 15 :: Value.bool false :: undef :: undef :: undef :: undef :: undef :: undef :: undef :: undef :: undef :: undef :: undef :: undef :: undef :: undef :: undef :: undef :: undef :: undef :: undef :: undef :: undef :: undef :: undef :: undef :: undef :: undef :: undef :: undef :: undef :: undef :: undef :: undef :: undef :: undef :: undef :: undef :: undef :: undef :: Value.pointer (some { block := n, off := 0 }) :: Value.agg #[Value.int IntKind.i64 t, Value.slice a1 16 c1, Value.int IntKind.i64 f, Value.slice v1 4 d1, Value.int IntKind.i64 dn] :: Value.pointer (some { block := n, off := 0 }) :: Value.pointer (some { block := n, off := 2 }) :: Value.bool true :: vs 0 :: vs 1 :: vs 2 :: vs 3 :: vs 4 :: vs 5 :: vs 6 :: vs 7 :: vs 8 :: vs 9 :: []), defers := [] } := ⟨_, rfl⟩
        have HLIT := Lib.hid hlit
        clear hlit
        obtain ⟨val, hval⟩ : ∃ val : List Value, val = [.pointer (some ⟨n, 0, none⟩), .pointer (some ⟨n, 0, none⟩), .pointer (some ⟨n, 0, none⟩), .pointer (some ⟨n, 0, none⟩), .agg #[.int .i64 nx, .slice pa P.length pc], .pointer (some ⟨w.heap.size, 0, none⟩), .int .i64 a, undef, .pointer (some ⟨n, 0, none⟩), .pointer (some ⟨n, 0, none⟩), undef] := ⟨_, rfl⟩
        have E0 := Lib.hid (show val.getD 0 undef = .pointer (some ⟨n, 0, none⟩) by rw [hval]; rfl)
        have E1 := Lib.hid (show val.getD 1 undef = .pointer (some ⟨n, 0, none⟩) by rw [hval]; rfl)
        have E2 := Lib.hid (show val.getD 2 undef = .pointer (some ⟨n, 0, none⟩) by rw [hval]; rfl)
        have E3 := Lib.hid (show val.getD 3 undef = .pointer (some ⟨n, 0, none⟩) by rw [hval]; rfl)
        have E4 := Lib.hid (show val.getD 4 undef = .agg #[.int .i64 nx, .slice pa P.length pc] by rw [hval]; rfl)
        have E5 := Lib.hid (show val.getD 5 undef = .pointer (some ⟨w.heap.size, 0, none⟩) by rw [hval]; rfl)
        have E6 := Lib.hid (show val.getD 6 undef = .int .i64 a by rw [hval]; rfl)
        have E8 := Lib.hid (show val.getD 8 undef = .pointer (some ⟨n, 0, none⟩) by rw [hval]; rfl)
        have E9 := Lib.hid (show val.getD 9 undef = .pointer (some ⟨n, 0, none⟩) by rw [hval]; rfl)
        clear hval
        obtain ⟨G, hG0⟩ : ∃ G : Bool → Nat → Value → World → Prop, G = (fun bq iq vq ww => (iq = 7 → Qsd wf.heap.size nx P' bq vq ww) ∧ (iq ≠ 7 → iq ≠ 10 → vq = val.getD iq undef)) := ⟨_, rfl⟩
        have HG := Lib.hid hG0
        clear hG0
        refine region_inv (NS lit 10 (fun p q => (p == 10 && q == 4) || (p == 10 && q == 6) || (p == 10 && q == 7)) G fun bq wv => (bq = false → Below wf.heap.size wf wv) ∧ (bq = true → (∃ (pc9 : Nat) (pa9 : Option Addr), WdA base n pa9 a1 v1 aa da pc9 c1 d1 ac dc nx P' t L f V dn A D wv) ∧ FB base n da wf wv)) (by kernel_rfl) (by decide +kernel) ?_ ?_ ?_
        · exact NS.start (fun i => ([undef, undef, undef, undef, undef, undef, undef, undef, undef, undef, undef] : List Value).getD i undef) (by rw [HLIT.out]; rfl) ⟨fun _ => below_drew _ _, fun h => (by cases h)⟩
        · refine ⟨?_, ?_, ?_, ?_, ?_, ?_, ?_, ?_, ?_, ?_, ?_, trivial⟩
          · intro bf ac wv hfb haf hJ K' hK
            obtain ⟨vs, rfl, ja, hB, j4⟩ := hJ
            replace hK := Lib.hid hK
            rw [HG.out] at j4
            replace j4 := Lib.hid (And.intro ja j4)
            replace hB := Lib.hid hB
            clear ja haf
            rw [HLIT.out]
            go_simp
            exact hK.out _ _ (NS.next (vs := vs) 0 (by omega) (fun q h => absurd h (by simp)) (x := .pointer (some ⟨n, 0, none⟩)) (by rw [HLIT.out]; rfl) (by rw [HG.out]; exact j4.out) hB.out (by rw [HG.out]; exact fun _ _ h => h) (by rw [HG.out]; exact ⟨fun h => absurd h (by decide), fun _ _ => E0.out.symm⟩))
          · intro bf ac wv hfb haf hJ K' hK
            obtain ⟨vs, rfl, ja, hB, j4⟩ := hJ
            replace hK := Lib.hid hK
            rw [HG.out] at j4
            replace j4 := Lib.hid (And.intro ja j4)
            replace hB := Lib.hid hB
            clear ja haf
            rw [HLIT.out]
            go_simp
            exact hK.out _ _ (NS.next (vs := vs) 1 (by omega) (fun q h => absurd h (by simp)) (x := .pointer (some ⟨n, 0, none⟩)) (by rw [HLIT.out]; rfl) (by rw [HG.out]; exact j4.out) hB.out (by rw [HG.out]; exact fun _ _ h => h) (by rw [HG.out]; exact ⟨fun h => absurd h (by decide), fun _ _ => E1.out.symm⟩))
          · intro bf ac wv hfb haf hJ K' hK
            obtain ⟨vs, rfl, ja, hB, j4⟩ := hJ
            replace hK := Lib.hid hK
            simp [Region.binds] at haf
            rw [HG.out] at j4
            have e1 := ((j4 1 (by simp [haf])).2 (by decide) (by decide)).trans E1.out
            replace j4 := Lib.hid (And.intro ja j4)
            replace hB := Lib.hid hB
            clear ja haf
            rw [HLIT.out]
            go_simp
            exact hK.out _ _ (NS.next (vs := vs) 2 (by omega) (fun q h => absurd h (by simp)) (x := .pointer (some ⟨n, 0, none⟩)) (by rw [HLIT.out]; simp only [upv, e1, Nat.reduceBEq, cond_true, cond_false]) (by rw [HG.out]; exact j4.out) hB.out (by rw [HG.out]; exact fun _ _ h => h) (by rw [HG.out]; exact ⟨fun h => absurd h (by decide), fun _ _ => E2.out.symm⟩))
          · intro bf ac wv hfb haf hJ K' hK
            obtain ⟨vs, rfl, ja, hB, j4⟩ := hJ
            replace hK := Lib.hid hK
            simp [Region.binds] at haf
            rw [HG.out] at j4
            have e2 := ((j4 2 (by simp [haf])).2 (by decide) (by decide)).trans E2.out
            replace j4 := Lib.hid (And.intro ja j4)
            replace hB := Lib.hid hB
            clear ja haf
            rw [HLIT.out]
            go_simp
            exact hK.out _ _ (NS.next (vs := vs) 3 (by omega) (fun q h => absurd h (by simp)) (x := .pointer (some ⟨n, 0, none⟩)) (by rw [HLIT.out]; simp only [upv, e2, Nat.reduceBEq, cond_true, cond_false]) (by rw [HG.out]; exact j4.out) hB.out (by rw [HG.out]; exact fun _ _ h => h) (by rw [HG.out]; exact ⟨fun h => absurd h (by decide), fun _ _ => E3.out.symm⟩))
          · intro bf ac wv hfb haf hJ K' hK
            obtain ⟨vs, rfl, ja, hB, j4⟩ := hJ
            replace hK := Lib.hid hK
            simp [Region.binds] at haf
            rw [HG.out] at j4
            have e3 := ((j4 3 (by simp [haf])).2 (by decide) (by decide)).trans E3.out
            have hd : bf 10 = false := by
              cases h : bf 10
              · rfl
              · exact absurd ((ja 10 4 rfl h).symm.trans hfb) (by simp)
            have hM := Lib.hid (hB.1 hd)
            replace j4 := Lib.hid (And.intro ja j4)
            replace hB := Lib.hid hB
            clear ja haf
            have xx0 := (HS.out.step hM.out).cs.c 0 rfl
            have xx1 := (HS.out.step hM.out).cs.c 1 rfl
            have xxz := (HS.out.step hM.out).cs.2.2
            rw [HLIT.out]
            go_simp
            exact hK.out _ _ (NS.next (vs := vs) 4 (by omega) (fun q h => absurd h (by simp)) (x := .agg #[.int .i64 nx, .slice pa P.length pc]) (by rw [HLIT.out]; simp only [upv, e3, Nat.reduceBEq, cond_true, cond_false]) (by rw [HG.out]; exact j4.out) hB.out (by rw [HG.out]; exact fun _ _ h => h) (by rw [HG.out]; exact ⟨fun h => absurd h (by decide), fun _ _ => E4.out.symm⟩))
          · intro bf ac wv hfb haf hJ K' hK
            obtain ⟨vs, rfl, ja, hB, j4⟩ := hJ
            replace hK := Lib.hid hK
            rw [HG.out] at j4
            replace j4 := Lib.hid (And.intro ja j4)
            replace hB := Lib.hid hB
            clear ja haf
            rw [HLIT.out]
            go_simp
            exact hK.out _ _ (NS.next (vs := vs) 5 (by omega) (fun q h => absurd h (by simp)) (x := .pointer (some ⟨w.heap.size, 0, none⟩)) (by rw [HLIT.out]; rfl) (by rw [HG.out]; exact j4.out) hB.out (by rw [HG.out]; exact fun _ _ h => h) (by rw [HG.out]; exact ⟨fun h => absurd h (by decide), fun _ _ => E5.out.symm⟩))
          · intro bf ac wv hfb haf hJ K' hK
            obtain ⟨vs, rfl, ja, hB, j4⟩ := hJ
            replace hK := Lib.hid hK
            simp [Region.binds] at haf
            rw [HG.out] at j4
            have e5 := ((j4 5 (by simp [haf])).2 (by decide) (by decide)).trans E5.out
            have hd : bf 10 = false := by
              cases h : bf 10
              · rfl
              · exact absurd ((ja 10 6 rfl h).symm.trans hfb) (by simp)
            have hM := Lib.hid (hB.1 hd)
            replace j4 := Lib.hid (And.intro ja j4)
            replace hB := Lib.hid hB
            clear ja haf
            have xp0 := (HOY.out.step hM.out).c 0 rfl
            have xpz := (HOY.out.step hM.out).2.2
            rw [HLIT.out]
            go_simp
            exact hK.out _ _ (NS.next (vs := vs) 6 (by omega) (fun q h => absurd h (by simp)) (x := .int .i64 a) (by rw [HLIT.out]; simp only [upv, e5, Nat.reduceBEq, cond_true, cond_false]) (by rw [HG.out]; exact j4.out) hB.out (by rw [HG.out]; exact fun _ _ h => h) (by rw [HG.out]; exact ⟨fun h => absurd h (by decide), fun _ _ => E6.out.symm⟩))
          · intro bf ac wv hfb haf hJ K' hK
            obtain ⟨vs, rfl, ja, hB, j4⟩ := hJ
            replace hK := Lib.hid hK
            simp [Region.binds] at haf
            rw [HG.out] at j4
            have e4 := ((j4 4 (by simp [haf])).2 (by decide) (by decide)).trans E4.out
            have e6 := ((j4 6 (by simp [haf])).2 (by decide) (by decide)).trans E6.out
            have hd : bf 10 = false := by
              cases h : bf 10
              · rfl
              · exact absurd ((ja 10 7 rfl h).symm.trans hfb) (by simp)
            have hM := Lib.hid (hB.1 hd)
            replace j4 := Lib.hid (And.intro ja j4)
            replace hB := Lib.hid hB
            clear ja haf
            rw [HLIT.out]
            go_simp
            go_at_call 17
            refine (confirm_to_f HCF.out ⟨fun _ => HSN.out, fun _ => rfl⟩ pa pc _ (HS.out.step hM.out).pp HPL.out).mono ?_
            rintro e w4 ⟨uc, ua, rfl, hp4, b4, hf4⟩
            exact hK.out _ _ (NS.next (vs := vs) 7 (by omega) (fun q h => absurd h (by simp)) (x := (.agg #[.int .i64 nx, .slice ua P'.length uc])) (by rw [HLIT.out]; simp only [upv, e4, e6, Nat.reduceBEq, cond_true, cond_false]) (by rw [HG.out]; exact j4.out) ⟨fun _ => keep2 b4 hM.out, fun e => absurd (e.symm.trans hd) (by simp)⟩ (by rw [HG.out]; exact fun k hbk h => ⟨fun q => (h.1 q).step b4, h.2⟩) (by rw [HG.out]; exact ⟨fun _ => ⟨uc, ua, rfl, fun _ => ⟨hp4, fun g o e => Nat.le_trans hM.out.size (hf4 g o e)⟩⟩, fun h7 => absurd rfl h7⟩))
          · intro bf ac wv hfb haf hJ K' hK
            obtain ⟨vs, rfl, ja, hB, j4⟩ := hJ
            replace hK := Lib.hid hK
            simp [Region.binds] at haf
            rw [HG.out] at j4
            have e0 := ((j4 0 (by simp [haf])).2 (by decide) (by decide)).trans E0.out
            replace j4 := Lib.hid (And.intro ja j4)
            replace hB := Lib.hid hB
            clear ja haf
            rw [HLIT.out]
            go_simp
            exact hK.out _ _ (NS.next (vs := vs) 8 (by omega) (fun q h => absurd h (by simp)) (x := .pointer (some ⟨n, 0, none⟩)) (by rw [HLIT.out]; simp only [upv, e0, Nat.reduceBEq, cond_true, cond_false]) (by rw [HG.out]; exact j4.out) hB.out (by rw [HG.out]; exact fun _ _ h => h) (by rw [HG.out]; exact ⟨fun h => absurd h (by decide), fun _ _ => E8.out.symm⟩))
          · intro bf ac wv hfb haf hJ K' hK
            obtain ⟨vs, rfl, ja, hB, j4⟩ := hJ
            replace hK := Lib.hid hK
            simp [Region.binds] at haf
            rw [HG.out] at j4
            have e8 := ((j4 8 (by simp [haf])).2 (by decide) (by decide)).trans E8.out
            replace j4 := Lib.hid (And.intro ja j4)
            replace hB := Lib.hid hB
            clear ja haf
            rw [HLIT.out]
            go_simp
            exact hK.out _ _ (NS.next (vs := vs) 9 (by omega) (fun q h => absurd h (by simp)) (x := .pointer (some ⟨n, 0, none⟩)) (by rw [HLIT.out]; simp only [upv, e8, Nat.reduceBEq, cond_true, cond_false]) (by rw [HG.out]; exact j4.out) hB.out (by rw [HG.out]; exact fun _ _ h => h) (by rw [HG.out]; exact ⟨fun h => absurd h (by decide), fun _ _ => E9.out.symm⟩))
          · intro bf ac wv hfb haf hJ K' hK
            obtain ⟨vs, rfl, ja, hB, j4⟩ := hJ
            replace hK := Lib.hid hK
            simp [Region.binds] at haf
            rw [HG.out] at j4
            have e7 := (j4 7 (by simp [haf])).1 rfl
            have e9 := ((j4 9 (by simp [haf])).2 (by decide) (by decide)).trans E9.out
            rw [hfb] at j4 hB
            try rw [hfb] at e7
            have HA := Lib.hid (show ∀ q, (fun p q => (p == 10 && q == 4) || (p == 10 && q == 6) || (p == 10 && q == 7)) 10 q = true → bf q = true from fun q hi => by
              obtain rfl | rfl | rfl : q = 4 ∨ q = 6 ∨ q = 7 := by simpa [or_assoc] using hi
              all_goals simp [haf])
            have hM := Lib.hid (hB.1 rfl)
            replace j4 := Lib.hid j4
            have HE := Lib.hid (And.intro ja HA.out)
            clear ja haf hB HA
            obtain ⟨uc, ua, e7, hp⟩ := e7
            obtain ⟨hp, hf⟩ := hp rfl
            have hWv := HS.out.step hM.out
            have HWv := Lib.hid hWv
            have x0 := hWv.cs.c 0 rfl
            have x1 := hWv.cs.c 1 rfl
            have y0 := hWv.cs.f 0 (by simp)
            have y1 := hWv.cs.f 1 (by simp)
            have xz := hWv.cs.2.2
            clear hWv
            replace hp := Lib.hid hp
            replace hf := Lib.hid hf
            rw [HLIT.out]
            go_simp
            have h9 := HWv.out.sets (nx' := nx) hp.out (fun _ => nb_fresh hf.out HS.out.cs.2.2) (fun _ => nb2_fresh hf.out (row_ltN HS.out.al (Nat.le_refl _))) (fun _ => nb2_fresh hf.out (row_ltN HS.out.dl (Nat.le_refl _)))
            exact hK.out _ _ (NS.put (vs := vs) (by rw [HLIT.out]; simp only [e7, e9]) HE.out ⟨fun e => (by cases e), fun _ => ⟨⟨_, _, h9⟩, (((FB.refl base n da wf).step hM.out HLE.out).setN HBN.out 0 _).setN HBN.out 1 _⟩⟩ (fun j hj hb => by
              rw [HG.out]
              have q := j4.out j hb
              exact ⟨fun h => (q.1 h).put _, q.2⟩) (fun v => by rw [HG.out]; exact ⟨fun h => absurd h (by decide), fun h7 h10 => absurd rfl h10⟩))
        · intro bf ac wv hall hJ
          obtain ⟨vs, rfl, -, hB, j4⟩ := hJ
          rw [HG.out] at j4
          rw [hall 10 (by decide)] at hB j4
          have hM := Lib.hid (hB.2 rfl)
          clear hB
          obtain ⟨⟨pc9, pa9, h9⟩, hb9⟩ := hM.out
          replace h9 := Lib.hid h9
          replace hb9 := Lib.hid hb9
          clear hM j4 hall
          rw [HLIT.out]
          dsimp only
          go_wp2
          go_ret
          exact ⟨rfl, ⟨_, _, _, _, _, _, _, _, _, h9.out, fun _ _ h => h⟩, HSB.out.tr hb9.out⟩

set_option maxRecDepth 100000 in
set_option maxHeartbeats 8000000 in
theorem arrive_did {base n : Nat} {pa ta va aa da : Option Addr} {pc tc vc ac dc : Nat} {nx : Int} {P : List Od} {t : Int} {L : List Bool} {f : Int} {V : List Int} {dn : Int} {A D : List Od} {a b c d : Int} {w : World} (h : WdA base n pa ta va aa da pc tc vc ac dc nx P t L f V dn A D w) (cf : Bool) {T' : Int} {L' : List Bool} {V' : List Int} {D' : List Od} (hrw : RW t L f V dn a b c d T' L' b V' (dn + 1) true 0) (hal : L'.length = 16) {pb : Bool} (hpb : (P.any fun x => x.a == a) = pb) (hdb : (D.any fun x => x.a == a) = false) {P' : List Od} (hcf : cfL nx a P true = P') (hsn : SnP nx P) (hpl : P.length ≤ 100000) (hdl : D.length ≤ 100000) (hdd : D' = D ++ [⟨a, b, c, d⟩]) (hbf : f ≤ b) (hdn : 0 ≤ dn ∧ dn ≤ 1000000) :
    Calls Try.prog 22 #[.pointer (some ⟨n, 0, none⟩), .agg #[.int .i64 a, .int .i64 b, .int .i64 c, .int .i64 d], .bool cf] w fun e w' => e = .returned (.bool true) ∧ WdQ base n aa da w.heap.size nx (cond cf P' P) T' L' b V' (dn + 1) A D' w' ∧ FB base n da w w' := by
  have H1 := Lib.hid (h.step (al w (.cells #[.int .i64 a, .int .i64 b, .int .i64 c, .int .i64 d] 32)))
  have H2 := Lib.hid (Cs.new w w.heap.size #[.int .i64 a, .int .i64 b, .int .i64 c, .int .i64 d] 32 rfl)
  have HLE := Lib.hid (h.le)
  have H3 := Lib.hid ((FB.refl base n da w).step (al w (.cells #[.int .i64 a, .int .i64 b, .int .i64 c, .int .i64 d] 32)) HLE.out)
  replace HLE := Lib.hid (H1.out.le)
  have HNW := Lib.hid h.cs.2.2
  have HON := Lib.hid (show some w.heap.size ≠ some n from fun q => by have h1 := HNW.out; simp at q; omega)
  have HOD := Lib.hid (show nb da w.heap.size from fun g o q => by have h1 := row_ltN h.dl (Nat.le_refl _) g o q; omega)
  have HPB := Lib.hid hpb
  clear hpb
  have HRW := Lib.hid hrw
  have HAL := Lib.hid (show (L' : List Bool).length = 16 from hal)
  clear hrw hal
  have HDB := Lib.hid hdb
  have HCF := Lib.hid hcf
  have HSN := Lib.hid hsn
  have HPL := Lib.hid hpl
  have HBN := Lib.hid h.bn
  clear hdb hcf hsn hpl
  have HDL := Lib.hid hdl
  have HDD := Lib.hid hdd
  have HWD := Lib.hid (show IntKind.i64.wrap (dn + 1) = dn + 1 from IntWalk.i64_in _ (by omega))
  have gd1 : decide (dn + 1 = dn) = false := decide_eq_false (by omega)
  have gd2 : (dn + 1 == dn) = false := beq_eq_false_iff_ne.2 (by omega)
  have gb1 : decide (b < f) = false := decide_eq_false (by omega)
  clear hdl hdd hbf hdn
  clear h
  go_enter Try.func22, Try.ntmps22
  go_upto_region 1 with fail
  obtain ⟨wq, hwq⟩ : ∃ z, w.alloc (.cells #[.int .i64 a, .int .i64 b, .int .i64 c, .int .i64 d] 32) = z := ⟨_, rfl⟩
  rw [hwq] at H1 H2 H3 HLE ⊢
  clear hwq
  have xw0 := H1.out.cs.c 0 rfl
  have xw1 := H1.out.cs.c 1 rfl
  have xwz := H1.out.cs.2.2
  have xo0 := H2.out.c 0 rfl
  have xoz := H2.out.2.2
  go_still_tail 7, (by kernel_rfl)
  change wpList _ _ _ _ _ wq.drew
  obtain ⟨w2, hw2⟩ : ∃ z, wq.drew = z := ⟨_, rfl⟩
  have b0 : Below wq.heap.size wq w2 := by rw [← hw2]; exact below_drew _ _
  rw [hw2]
  clear hw2
  clear xw0 xw1 xwz xo0 xoz
  have H4 := Lib.hid (H1.out.step b0)
  have H5 := Lib.hid (H2.out.step b0)
  have H6 := Lib.hid (H3.out.step b0 HLE.out)
  clear H1 H2 H3
  replace HLE := Lib.hid (H4.out.le)
  clear b0
  go_wp2_with fail
  refine (has_any (.slice pa P.length pc) P a _ H4.out.pp).mono ?_
  rintro e w3 ⟨rfl, b3⟩
  have H7 := Lib.hid (H4.out.step b3)
  have H8 := Lib.hid (H5.out.step b3)
  have H9 := Lib.hid (H6.out.step b3 HLE.out)
  clear H4 H5 H6
  replace HLE := Lib.hid (H7.out.le)
  clear b3
  rw [HPB.out]
  go_upto_region 2 with fail
  go_cut [8, 9, 10] from 19 to 28 (fun p1 p2 p3 wc => ∃ (k c1 d1 : Nat) (a1 v1 : Option Addr), p1 = .pointer (some ⟨k, 0, none⟩) ∧ p2 = .bool true ∧ p3 = .int .i64 0 ∧ w3.heap.size ≤ k ∧ Cs wc k #[.int .i64 T', .slice a1 16 c1, .int .i64 b, .slice v1 4 d1, .int .i64 (dn + 1)] ∧ RvS w3.heap.size L' V' c1 d1 a1 v1 wc ∧ Below w3.heap.size w3 wc)
  case first =>
    obtain ⟨lit, hlit⟩ : ∃ lit : (Nat → Value) → Act, lit = fun vs => { tmps := List.toArray (Value.pointer (some { block := n, off := 0 }) :: Value.agg #[Value.int IntKind.i64 a, Value.int IntKind.i64 b, Value.int IntKind.i64 c, Value.int IntKind.i64 d] :: Value.bool cf :: undef :: Value.pointer (some { block := w.heap.size, off := 0 }) :: undef :: Value.bool false :: Value.bool pb :: vs 10 :: vs 12 :: vs 13 :: Value.pointer (some { block := n, off := 0 }) :: Value.pointer (some { block := n, off := 0 }) :: Value.pointer (some { block := n, off := 0 }) :: Value.pointer (some { block := n, off := 1 }) :: Value.slice pa P.length pc :: Value.pointer (some { block := w.heap.size, off := 0 }) :: Value.int IntKind.i64 a :: Value.bool pb :: vs 6 :: vs 0 :: vs 1 :: vs 2 :: vs 3 :: vs 4 :: vs 5 :: vs 7 :: vs 8 :: vs 9 :: undef :: undef :: undef :: undef :: undef :: undef :: undef :: undef :: undef :: undef :: undef :: undef :: undef :: undef :: undef :: undef :: undef :: undef :: undef :: undef :: undef :: undef :: undef :: undef :: undef :: undef :: undef :: undef :: undef :: undef :: undef :: undef :: undef :: undef :: undef :: undef :: undef :: undef :: undef :: undef :: undef :: undef :: undef :: undef :: undef :: undef :: undef :: undef :: undef :: undef :: undef :: undef :: undef :: undef :: undef :: undef :: undef :: undef :: undef :: undef :: undef :: undef :: undef :: undef :: undef :: undef :: undef :: undef :: undef :: undef :: undef :: undef :: undef :: undef :: undef :: undef :: undef :: undef :: undef :: undef :: undef :: undef :: undef :: undef :: undef :: undef :: undef :: undef :: undef :: undef :: undef :: undef :: undef :: undef :: undef :: undef :: undef :: undef :: undef :: undef :: undef :: undef :: undef :: undef :: undef :: undef :: undef :: undef :: undef :: undef :: undef :: undef :: undef :: undef :: []), defers := [] } := ⟨_, rfl⟩
    have HLIT := Lib.hid hlit
    clear hlit
    obtain ⟨val, hval⟩ : ∃ val : List Value, val = [.pointer (some ⟨n, 0, none⟩), .pointer (some ⟨n, 0, none⟩), .pointer (some ⟨n, 2, none⟩), .agg #[.int .i64 t, .slice ta 16 tc, .int .i64 f, .slice va 4 vc, .int .i64 dn], .agg #[.int .i64 a, .int .i64 b, .int .i64 c, .int .i64 d], undef, undef, undef, .bool true, .int .i64 0, undef, undef, .bool true, .int .i64 0] := ⟨_, rfl⟩
    have E0 := Lib.hid (show val.getD 0 undef = .pointer (some ⟨n, 0, none⟩) by rw [hval]; rfl)
    have E1 := Lib.hid (show val.getD 1 undef = .pointer (some ⟨n, 0, none⟩) by rw [hval]; rfl)
    have E2 := Lib.hid (show val.getD 2 undef = .pointer (some ⟨n, 2, none⟩) by rw [hval]; rfl)
    have E3 := Lib.hid (show val.getD 3 undef = .agg #[.int .i64 t, .slice ta 16 tc, .int .i64 f, .slice va 4 vc, .int .i64 dn] by rw [hval]; rfl)
    have E4 := Lib.hid (show val.getD 4 undef = .agg #[.int .i64 a, .int .i64 b, .int .i64 c, .int .i64 d] by rw [hval]; rfl)
    have E8 := Lib.hid (show val.getD 8 undef = .bool true by rw [hval]; rfl)
    have E9 := Lib.hid (show val.getD 9 undef = .int .i64 0 by rw [hval]; rfl)
    have E12 := Lib.hid (show val.getD 12 undef = .bool true by rw [hval]; rfl)
    have E13 := Lib.hid (show val.getD 13 undef = .int .i64 0 by rw [hval]; rfl)
    clear hval
    obtain ⟨G, hG0⟩ : ∃ G : Bool → Nat → Value → World → Prop, G = (fun bq iq vq ww => (iq = 5 → Qvt w3.heap.size T' L' b V' (dn + 1) true 0 bq vq ww) ∧ (iq = 6 → Qvt w3.heap.size T' L' b V' (dn + 1) true 0 bq vq ww) ∧ (iq = 7 → Qva w3.heap.size T' L' b V' (dn + 1) bq vq ww) ∧ (iq = 10 → Qvk w3.heap.size T' L' b V' (dn + 1) bq vq ww) ∧ (iq ≠ 5 → iq ≠ 6 → iq ≠ 7 → iq ≠ 10 → iq ≠ 11 → vq = val.getD iq undef)) := ⟨_, rfl⟩
    have HG := Lib.hid hG0
    clear hG0
    refine region_inv (NS lit 11 (fun p q => (p == 11 && q == 3) || (p == 11 && q == 4) || (p == 11 && q == 5) || (p == 11 && q == 10)) G fun bq wv => (bq = false → Below w3.heap.size w3 wv) ∧ (bq = true → Below w3.heap.size w3 wv)) (by kernel_rfl) (by decide +kernel) ?_ ?_ ?_
    · exact NS.start (fun i => ([undef, undef, undef, undef, undef, undef, undef, undef, undef, undef, undef, undef, undef, undef] : List Value).getD i undef) (by rw [HLIT.out]; rfl) ⟨fun _ => below_drew _ _, fun h => (by cases h)⟩
    · refine ⟨?_, ?_, ?_, ?_, ?_, ?_, ?_, ?_, ?_, ?_, ?_, ?_, ?_, ?_, trivial⟩
      · intro bf ac wv hfb haf hJ K' hK
        obtain ⟨vs, rfl, ja, hB, j4⟩ := hJ
        replace hK := Lib.hid hK
        rw [HG.out] at j4
        replace j4 := Lib.hid (And.intro ja j4)
        replace hB := Lib.hid hB
        clear ja haf
        rw [HLIT.out]
        go_simp
        exact hK.out _ _ (NS.next (vs := vs) 0 (by omega) (fun q h => absurd h (by simp)) (x := .pointer (some ⟨n, 0, none⟩)) (by rw [HLIT.out]; rfl) (by rw [HG.out]; exact j4.out) hB.out (by rw [HG.out]; exact fun _ _ h => h) (by rw [HG.out]; exact ⟨fun h => absurd h (by decide), fun h => absurd h (by decide), fun h => absurd h (by decide), fun h => absurd h (by decide), fun _ _ _ _ _ => E0.out.symm⟩))
      · intro bf ac wv hfb haf hJ K' hK
        obtain ⟨vs, rfl, ja, hB, j4⟩ := hJ
        replace hK := Lib.hid hK
        simp [Region.binds] at haf
        rw [HG.out] at j4
        have e0 := ((j4 0 (by simp [haf])).2.2.2.2 (by decide) (by decide) (by decide) (by decide) (by decide)).trans E0.out
        replace j4 := Lib.hid (And.intro ja j4)
        replace hB := Lib.hid hB
        clear ja haf
        rw [HLIT.out]
        go_simp
        exact hK.out _ _ (NS.next (vs := vs) 1 (by omega) (fun q h => absurd h (by simp)) (x := .pointer (some ⟨n, 0, none⟩)) (by rw [HLIT.out]; simp only [upv, e0, Nat.reduceBEq, cond_true, cond_false]) (by rw [HG.out]; exact j4.out) hB.out (by rw [HG.out]; exact fun _ _ h => h) (by rw [HG.out]; exact ⟨fun h => absurd h (by decide), fun h => absurd h (by decide), fun h => absurd h (by decide), fun h => absurd h (by decide), fun _ _ _ _ _ => E1.out.symm⟩))
      · intro bf ac wv hfb haf hJ K' hK
        obtain ⟨vs, rfl, ja, hB, j4⟩ := hJ
        replace hK := Lib.hid hK
        simp [Region.binds] at haf
        rw [HG.out] at j4
        have e1 := ((j4 1 (by simp [haf])).2.2.2.2 (by decide) (by decide) (by decide) (by decide) (by decide)).trans E1.out
        replace j4 := Lib.hid (And.intro ja j4)
        replace hB := Lib.hid hB
        clear ja haf
        rw [HLIT.out]
        go_simp
        exact hK.out _ _ (NS.next (vs := vs) 2 (by omega) (fun q h => absurd h (by simp)) (x := .pointer (some ⟨n, 2, none⟩)) (by rw [HLIT.out]; simp only [upv, e1, Nat.reduceBEq, cond_true, cond_false]) (by rw [HG.out]; exact j4.out) hB.out (by rw [HG.out]; exact fun _ _ h => h) (by rw [HG.out]; exact ⟨fun h => absurd h (by decide), fun h => absurd h (by decide), fun h => absurd h (by decide), fun h => absurd h (by decide), fun _ _ _ _ _ => E2.out.symm⟩))
      · intro bf ac wv hfb haf hJ K' hK
        obtain ⟨vs, rfl, ja, hB, j4⟩ := hJ
        replace hK := Lib.hid hK
        simp [Region.binds] at haf
        rw [HG.out] at j4
        have e2 := ((j4 2 (by simp [haf])).2.2.2.2 (by decide) (by decide) (by decide) (by decide) (by decide)).trans E2.out
        have hd : bf 11 = false := by
          cases h : bf 11
          · rfl
          · exact absurd ((ja 11 3 rfl h).symm.trans hfb) (by simp)
        have hM := Lib.hid (hB.1 hd)
        replace j4 := Lib.hid (And.intro ja j4)
        replace hB := Lib.hid hB
        clear ja haf
        have xx2 := (H7.out.step hM.out).cs.c 2 rfl
        have xx3 := (H7.out.step hM.out).cs.c 3 rfl
        have xx4 := (H7.out.step hM.out).cs.c 4 rfl
        have xx5 := (H7.out.step hM.out).cs.c 5 rfl
        have xx6 := (H7.out.step hM.out).cs.c 6 rfl
        have xxz := (H7.out.step hM.out).cs.2.2
        rw [HLIT.out]
        go_simp
        exact hK.out _ _ (NS.next (vs := vs) 3 (by omega) (fun q h => absurd h (by simp)) (x := .agg #[.int .i64 t, .slice ta 16 tc, .int .i64 f, .slice va 4 vc, .int .i64 dn]) (by rw [HLIT.out]; simp only [upv, e2, Nat.reduceBEq, cond_true, cond_false]) (by rw [HG.out]; exact j4.out) hB.out (by rw [HG.out]; exact fun _ _ h => h) (by rw [HG.out]; exact ⟨fun h => absurd h (by decide), fun h => absurd h (by decide), fun h => absurd h (by decide), fun h => absurd h (by decide), fun _ _ _ _ _ => E3.out.symm⟩))
      · intro bf ac wv hfb haf hJ K' hK
        obtain ⟨vs, rfl, ja, hB, j4⟩ := hJ
        replace hK := Lib.hid hK
        rw [HG.out] at j4
        have hd : bf 11 = false := by
          cases h : bf 11
          · rfl
          · exact absurd ((ja 11 4 rfl h).symm.trans hfb) (by simp)
        have hM := Lib.hid (hB.1 hd)
        replace j4 := Lib.hid (And.intro ja j4)
        replace hB := Lib.hid hB
        clear ja haf
        have xp0 := (H8.out.step hM.out).c 0 rfl
        have xp1 := (H8.out.step hM.out).c 1 rfl
        have xp2 := (H8.out.step hM.out).c 2 rfl
        have xp3 := (H8.out.step hM.out).c 3 rfl
        have xpz := (H8.out.step hM.out).2.2
        rw [HLIT.out]
        go_simp
        exact hK.out _ _ (NS.next (vs := vs) 4 (by omega) (fun q h => absurd h (by simp)) (x := .agg #[.int .i64 a, .int .i64 b, .int .i64 c, .int .i64 d]) (by rw [HLIT.out]; rfl) (by rw [HG.out]; exact j4.out) hB.out (by rw [HG.out]; exact fun _ _ h => h) (by rw [HG.out]; exact ⟨fun h => absurd h (by decide), fun h => absurd h (by decide), fun h => absurd h (by decide), fun h => absurd h (by decide), fun _ _ _ _ _ => E4.out.symm⟩))
      · intro bf ac wv hfb haf hJ K' hK
        obtain ⟨vs, rfl, ja, hB, j4⟩ := hJ
        replace hK := Lib.hid hK
        simp [Region.binds] at haf
        rw [HG.out] at j4
        have e3 := ((j4 3 (by simp [haf])).2.2.2.2 (by decide) (by decide) (by decide) (by decide) (by decide)).trans E3.out
        have e4 := ((j4 4 (by simp [haf])).2.2.2.2 (by decide) (by decide) (by decide) (by decide) (by decide)).trans E4.out
        have hd : bf 11 = false := by
          cases h : bf 11
          · rfl
          · exact absurd ((ja 11 5 rfl h).symm.trans hfb) (by simp)
        have hM := Lib.hid (hB.1 hd)
        replace j4 := Lib.hid (And.intro ja j4)
        replace hB := Lib.hid hB
        clear ja haf
        rw [HLIT.out]
        go_simp
        go_at_call 13
        refine (rcv_w HRW.out HAL.out _ _ _ (H7.out.step hM.out).tt (H7.out.step hM.out).vv (bos_len H7.out.tt) (ints_len H7.out.vv)).mono ?_
        rintro e w4 ⟨⟨c1, d1, a1, v1, rfl, hr⟩, b4⟩
        exact hK.out _ _ (NS.next (vs := vs) 5 (by omega) (fun q h => absurd h (by simp)) (x := (.tuple #[.agg #[.int .i64 T', .slice a1 16 c1, .int .i64 b, .slice v1 4 d1, .int .i64 (dn + 1)], .bool true, .int .i64 0])) (by rw [HLIT.out]; simp only [upv, e3, e4, Nat.reduceBEq, cond_true, cond_false]) (by rw [HG.out]; exact j4.out) ⟨fun _ => keep2 b4 hM.out, fun e => absurd (e.symm.trans hd) (by simp)⟩ (by rw [HG.out]; exact fun k hbk h => ⟨fun q => (h.1 q).step b4, fun q => (h.2.1 q).step b4, fun q => (h.2.2.1 q).step b4, fun q => (h.2.2.2.1 q).step b4, h.2.2.2.2⟩) (by rw [HG.out]; exact ⟨fun _ => ⟨c1, d1, a1, v1, rfl, fun _ => ⟨hr.1, hr.2.1, hr.2.2.1, fun g o e => Nat.le_trans hM.out.size (hr.2.2.2.1 g o e), fun g o e => Nat.le_trans hM.out.size (hr.2.2.2.2 g o e)⟩⟩, fun h => absurd h (by decide), fun h => absurd h (by decide), fun h => absurd h (by decide), fun h5 => absurd rfl h5⟩))
      · intro bf ac wv hfb haf hJ K' hK
        obtain ⟨vs, rfl, ja, hB, j4⟩ := hJ
        replace hK := Lib.hid hK
        simp [Region.binds] at haf
        rw [HG.out] at j4
        have e5 := (j4 5 (by simp [haf])).1 rfl
        replace j4 := Lib.hid (And.intro ja j4)
        replace hB := Lib.hid hB
        clear ja haf
        obtain ⟨c1, d1, a1, v1, e5, hr⟩ := e5
        rw [HLIT.out]
        go_simp
        exact hK.out _ _ (NS.next (vs := vs) 6 (by omega) (fun q h => absurd h (by simp)) (x := (.tuple #[.agg #[.int .i64 T', .slice a1 16 c1, .int .i64 b, .slice v1 4 d1, .int .i64 (dn + 1)], .bool true, .int .i64 0])) (by rw [HLIT.out]; simp only [upv, e5, Nat.reduceBEq, cond_true, cond_false]) (by rw [HG.out]; exact j4.out) hB.out (by rw [HG.out]; exact fun _ _ h => h) (by rw [HG.out]; exact ⟨fun h => absurd h (by decide), fun _ => ⟨c1, d1, a1, v1, rfl, hr⟩, fun h => absurd h (by decide), fun h => absurd h (by decide), fun h5 h6 => absurd rfl h6⟩))
      · intro bf ac wv hfb haf hJ K' hK
        obtain ⟨vs, rfl, ja, hB, j4⟩ := hJ
        replace hK := Lib.hid hK
        simp [Region.binds] at haf
        rw [HG.out] at j4
        have e6 := (j4 6 (by simp [haf])).2.1 rfl
        replace j4 := Lib.hid (And.intro ja j4)
        replace hB := Lib.hid hB
        clear ja haf
        obtain ⟨c1, d1, a1, v1, e6, hr⟩ := e6
        rw [HLIT.out]
        go_simp
        exact hK.out _ _ (NS.next (vs := vs) 7 (by omega) (fun q h => absurd h (by simp)) (x := (.agg #[.int .i64 T', .slice a1 16 c1, .int .i64 b, .slice v1 4 d1, .int .i64 (dn + 1)])) (by rw [HLIT.out]; simp only [upv, e6, Nat.reduceBEq, cond_true, cond_false]) (by rw [HG.out]; exact j4.out) hB.out (by rw [HG.out]; exact fun _ _ h => h) (by rw [HG.out]; exact ⟨fun h => absurd h (by decide), fun h => absurd h (by decide), fun _ => ⟨c1, d1, a1, v1, rfl, hr⟩, fun h => absurd h (by decide), fun h5 h6 h7 => absurd rfl h7⟩))
      · intro bf ac wv hfb haf hJ K' hK
        obtain ⟨vs, rfl, ja, hB, j4⟩ := hJ
        replace hK := Lib.hid hK
        simp [Region.binds] at haf
        rw [HG.out] at j4
        have e6 := (j4 6 (by simp [haf])).2.1 rfl
        replace j4 := Lib.hid (And.intro ja j4)
        replace hB := Lib.hid hB
        clear ja haf
        obtain ⟨c1, d1, a1, v1, e6, hr⟩ := e6
        rw [HLIT.out]
        go_simp
        exact hK.out _ _ (NS.next (vs := vs) 8 (by omega) (fun q h => absurd h (by simp)) (x := .bool true) (by rw [HLIT.out]; simp only [upv, e6, Nat.reduceBEq, cond_true, cond_false]) (by rw [HG.out]; exact j4.out) hB.out (by rw [HG.out]; exact fun _ _ h => h) (by rw [HG.out]; exact ⟨fun h => absurd h (by decide), fun h => absurd h (by decide), fun h => absurd h (by decide), fun h => absurd h (by decide), fun _ _ _ _ _ => E8.out.symm⟩))
      · intro bf ac wv hfb haf hJ K' hK
        obtain ⟨vs, rfl, ja, hB, j4⟩ := hJ
        replace hK := Lib.hid hK
        simp [Region.binds] at haf
        rw [HG.out] at j4
        have e6 := (j4 6 (by simp [haf])).2.1 rfl
        replace j4 := Lib.hid (And.intro ja j4)
        replace hB := Lib.hid hB
        clear ja haf
        obtain ⟨c1, d1, a1, v1, e6, hr⟩ := e6
        rw [HLIT.out]
        go_simp
        exact hK.out _ _ (NS.next (vs := vs) 9 (by omega) (fun q h => absurd h (by simp)) (x := .int .i64 0) (by rw [HLIT.out]; simp only [upv, e6, Nat.reduceBEq, cond_true, cond_false]) (by rw [HG.out]; exact j4.out) hB.out (by rw [HG.out]; exact fun _ _ h => h) (by rw [HG.out]; exact ⟨fun h => absurd h (by decide), fun h => absurd h (by decide), fun h => absurd h (by decide), fun h => absurd h (by decide), fun _ _ _ _ _ => E9.out.symm⟩))
      · intro bf ac wv hfb haf hJ K' hK
        obtain ⟨vs, rfl, ja, hB, j4⟩ := hJ
        replace hK := Lib.hid hK
        rw [HG.out] at j4
        have hd : bf 11 = false := by
          cases h : bf 11
          · rfl
          · exact absurd ((ja 11 10 rfl h).symm.trans hfb) (by simp)
        have hM := Lib.hid (hB.1 hd)
        replace j4 := Lib.hid (And.intro ja j4)
        replace hB := Lib.hid hB
        clear ja haf
        rw [HLIT.out]
        go_simp
        have b4 := al wv (.cells Z5 30)
        exact hK.out _ _ (NS.next (vs := vs) 10 (by omega) (fun q h => absurd h (by simp)) (x := (.pointer (some ⟨wv.heap.size, 0, none⟩))) (by rw [HLIT.out]; rfl) (by rw [HG.out]; exact j4.out) ⟨fun _ => keep2 b4 hM.out, fun e => absurd (e.symm.trans hd) (by simp)⟩ (by rw [HG.out]; exact fun k hbk h => ⟨fun q => (h.1 q).step b4, fun q => (h.2.1 q).step b4, fun q => (h.2.2.1 q).step b4, fun q => (h.2.2.2.1 q).step b4, h.2.2.2.2⟩) (by rw [HG.out]; exact ⟨fun h => absurd h (by decide), fun h => absurd h (by decide), fun h => absurd h (by decide), fun _ => ⟨wv.heap.size, rfl, hM.out.size, fun _ => BoxN.new wv Z5 30, fun e => absurd (e.symm.trans hd) (by simp)⟩, fun h5 h6 h7 h10 => absurd rfl h10⟩))
      · intro bf ac wv hfb haf hJ K' hK
        obtain ⟨vs, rfl, ja, hB, j4⟩ := hJ
        replace hK := Lib.hid hK
        simp [Region.binds] at haf
        rw [HG.out] at j4
        have e7 := (j4 7 (by simp [haf])).2.2.1 rfl
        have e10 := (j4 10 (by simp [haf])).2.2.2.1 rfl
        rw [hfb] at j4 hB
        try rw [hfb] at e7
        try rw [hfb] at e10
        have HA := Lib.hid (show ∀ q, (fun p q => (p == 11 && q == 3) || (p == 11 && q == 4) || (p == 11 && q == 5) || (p == 11 && q == 10)) 11 q = true → bf q = true from fun q hi => by
          obtain rfl | rfl | rfl | rfl : q = 3 ∨ q = 4 ∨ q = 5 ∨ q = 10 := by simpa [or_assoc] using hi
          all_goals simp [haf])
        have hM := Lib.hid (hB.1 rfl)
        replace j4 := Lib.hid j4
        have HE := Lib.hid (And.intro ja HA.out)
        clear ja haf hB HA
        obtain ⟨k, e10, hk, hz, -⟩ := e10
        replace hz := hz rfl
        obtain ⟨c1, d1, a1, v1, e7, hr⟩ := e7
        replace hr := Lib.hid (hr rfl)
        replace hk := Lib.hid hk
        have HZ := Lib.hid hz
        have HZC := Lib.hid (Cs.of_heap hz)
        have x0 := HZC.out.c 0 rfl
        have y0 := HZC.out.f 0 (by simp [Z5])
        have x1 := HZC.out.c 1 rfl
        have y1 := HZC.out.f 1 (by simp [Z5])
        have x2 := HZC.out.c 2 rfl
        have y2 := HZC.out.f 2 (by simp [Z5])
        have x3 := HZC.out.c 3 rfl
        have y3 := HZC.out.f 3 (by simp [Z5])
        have x4 := HZC.out.c 4 rfl
        have y4 := HZC.out.f 4 (by simp [Z5])
        have xz := HZC.out.2.2
        clear hz
        rw [HLIT.out]
        go_simp
        obtain ⟨p1, p2, p3⟩ := put5_ok T' b (dn + 1) HZ.out hr.out hk.out
        exact hK.out _ _ (NS.put (vs := vs) (w' := put5 wv k T' b (dn + 1) c1 d1 a1 v1) (by rw [HLIT.out]; simp only [e10, e7]) HE.out ⟨fun e => (by cases e), fun _ => hM.out.trans p3⟩ (fun j hj hb => by
          rw [HG.out]
          have q := j4.out j hb
          exact ⟨fun h => (q.1 h).put _, fun h => (q.2.1 h).put _, fun h => (q.2.2.1 h).put _, fun h => by
            subst h
            exact ⟨k, e10, hk.out, fun e => (by cases e), fun _ => ⟨c1, d1, a1, v1, p1, p2⟩⟩, q.2.2.2.2⟩) (fun v => by rw [HG.out]; exact ⟨fun h => absurd h (by decide), fun h => absurd h (by decide), fun h => absurd h (by decide), fun h => absurd h (by decide), fun h5 h6 h7 h10 h11 => absurd rfl h11⟩))
      · intro bf ac wv hfb haf hJ K' hK
        obtain ⟨vs, rfl, ja, hB, j4⟩ := hJ
        replace hK := Lib.hid hK
        simp [Region.binds] at haf
        rw [HG.out] at j4
        have e8 := ((j4 8 (by simp [haf])).2.2.2.2 (by decide) (by decide) (by decide) (by decide) (by decide)).trans E8.out
        replace j4 := Lib.hid (And.intro ja j4)
        replace hB := Lib.hid hB
        clear ja haf
        rw [HLIT.out]
        go_simp
        exact hK.out _ _ (NS.next (vs := vs) 12 (by omega) (fun q h => absurd h (by simp)) (x := .bool true) (by rw [HLIT.out]; simp only [upv, e8, Nat.reduceBEq, cond_true, cond_false]) (by rw [HG.out]; exact j4.out) hB.out (by rw [HG.out]; exact fun _ _ h => h) (by rw [HG.out]; exact ⟨fun h => absurd h (by decide), fun h => absurd h (by decide), fun h => absurd h (by decide), fun h => absurd h (by decide), fun _ _ _ _ _ => E12.out.symm⟩))
      · intro bf ac wv hfb haf hJ K' hK
        obtain ⟨vs, rfl, ja, hB, j4⟩ := hJ
        replace hK := Lib.hid hK
        simp [Region.binds] at haf
        rw [HG.out] at j4
        have e9 := ((j4 9 (by simp [haf])).2.2.2.2 (by decide) (by decide) (by decide) (by decide) (by decide)).trans E9.out
        replace j4 := Lib.hid (And.intro ja j4)
        replace hB := Lib.hid hB
        clear ja haf
        rw [HLIT.out]
        go_simp
        exact hK.out _ _ (NS.next (vs := vs) 13 (by omega) (fun q h => absurd h (by simp)) (x := .int .i64 0) (by rw [HLIT.out]; simp only [upv, e9, Nat.reduceBEq, cond_true, cond_false]) (by rw [HG.out]; exact j4.out) hB.out (by rw [HG.out]; exact fun _ _ h => h) (by rw [HG.out]; exact ⟨fun h => absurd h (by decide), fun h => absurd h (by decide), fun h => absurd h (by decide), fun h => absurd h (by decide), fun _ _ _ _ _ => E13.out.symm⟩))
    · intro bf ac wv hall hJ
      obtain ⟨vs, rfl, -, hB, j4⟩ := hJ
      rw [HG.out] at j4
      rw [hall 11 (by decide)] at hB j4
      have hM := Lib.hid (hB.2 rfl)
      clear hB
      obtain ⟨k, e10, hk, -, hp⟩ := (j4 10 (hall 10 (by decide))).2.2.2.1 rfl
      obtain ⟨c1, d1, a1, v1, hc, hr⟩ := hp rfl
      have e12 := ((j4 12 (hall 12 (by decide))).2.2.2.2 (by decide) (by decide) (by decide) (by decide) (by decide)).trans E12.out
      have e13 := ((j4 13 (hall 13 (by decide))).2.2.2.2 (by decide) (by decide) (by decide) (by decide) (by decide)).trans E13.out
      clear j4 hall
      rw [HLIT.out]
      dsimp only
      rw [e10, e12, e13]
      clear e10 e12 e13
      go_wp2
      go_meet
      exact ⟨k, c1, d1, a1, v1, rfl, rfl, rfl, hk, hc, hr, hM.out⟩
  case rest =>
    obtain ⟨k, c1, d1, a1, v1, rfl, rfl, rfl, hk, hc, hr, b5⟩ := hcut
    have HKK := Lib.hid hk
    have HKR := Lib.hid hc
    have HRV := Lib.hid hr
    clear hk hc hr
    have HWB := Lib.hid H7.out
    have H10 := Lib.hid (H7.out.step b5)
    have H11 := Lib.hid (H8.out.step b5)
    have H12 := Lib.hid (H9.out.step b5 HLE.out)
    clear H7 H8 H9
    replace HLE := Lib.hid (H10.out.le)
    clear b5
    have HNN := Lib.hid (show nb a1 n ∧ nb v1 n from ⟨nb_fresh HRV.out.2.2.2.1 HWB.out.cs.2.2, nb_fresh HRV.out.2.2.2.2 HWB.out.cs.2.2⟩)
    have HNA := Lib.hid (show nb2 a1 aa ∧ nb2 v1 aa from ⟨nb2_fresh HRV.out.2.2.2.1 (row_ltN HWB.out.al (Nat.le_refl _)), nb2_fresh HRV.out.2.2.2.2 (row_ltN HWB.out.al (Nat.le_refl _))⟩)
    have HND := Lib.hid (show nb2 a1 da ∧ nb2 v1 da from ⟨nb2_fresh HRV.out.2.2.2.1 (row_ltN HWB.out.dl (Nat.le_refl _)), nb2_fresh HRV.out.2.2.2.2 (row_ltN HWB.out.dl (Nat.le_refl _))⟩)
    have HKN := Lib.hid (show some k ≠ some n from fun q => by have h1 := HWB.out.cs.2.2; have h2 := HKK.out; simp at q; omega)
    have HKD := Lib.hid (show nb da k from fun g o q => by have h1 := row_ltN HWB.out.dl (Nat.le_refl _) g o q; have h2 := HKK.out; omega)
    clear HWB
    go_upto_region 7 with fail
    have xk4 := HKR.out.c 4 rfl
    have xkz := HKR.out.2.2
    have xw6 := H10.out.cs.c 6 rfl
    have xwz := H10.out.cs.2.2
    go_quiet (fail)
    obtain ⟨wd, hwd⟩ : ∃ z, wc.drewN nq = z := ⟨_, rfl⟩
    have b6 : Below wc.heap.size wc wd := by rw [← hwd]; exact below_drewN' _ _ _
    rw [hwd]
    clear hwd
    replace HRV := Lib.hid (HRV.out.step b6)
    clear xk4 xkz xw6 xwz
    have H13 := Lib.hid (H10.out.step b6)
    have H14 := Lib.hid (H11.out.step b6)
    have H15 := Lib.hid (H12.out.step b6 HLE.out)
    have H16 := Lib.hid (HKR.out.step b6)
    clear H10 H11 H12 HKR
    replace HLE := Lib.hid (H13.out.le)
    clear b6
    go_upto_region 10 with fail
    obtain ⟨lit, hlit⟩ : ∃ lit : (Nat → Value) → Act, lit = fun vs => { tmps := List.toArray (Value.pointer (some { block := n, off := 0 }) :: Value.agg #[Value.int IntKind.i64 a, Value.int IntKind.i64 b, Value.int IntKind.i64 c, Value.int IntKind.i64 d] :: Value.bool cf :: undef :: Value.pointer (some { block := w.heap.size, off := 0 }) :: undef :: Value.bool false :: Value.bool pb :: Value.pointer (some { block := k, off := 0 }) :: Value.bool true :: Value.int IntKind.i64 0 :: Value.pointer (some { block := n, off := 0 }) :: Value.pointer (some { block := n, off := 0 }) :: Value.pointer (some { block := n, off := 0 }) :: Value.pointer (some { block := n, off := 1 }) :: Value.slice pa P.length pc :: Value.pointer (some { block := w.heap.size, off := 0 }) :: Value.int IntKind.i64 a :: Value.bool pb :: u19 :: u20 :: u21 :: u22 :: u23 :: u24 :: u25 :: u26 :: u27 :: u28 :: Value.int IntKind.i64 0 :: Value.bool false :: undef :: undef :: undef :: undef :: undef :: undef :: undef :: undef :: undef :: undef :: undef :: undef :: undef :: undef :: undef :: undef :: undef :: undef :: undef :: undef :: undef :: undef :: undef :: undef :: undef :: undef :: undef :: undef :: undef :: undef :: undef :: undef :: Value.bool true :: Value.bool false :: Value.pointer (some { block := k, off := 4 }) :: Value.int IntKind.i64 (dn + 1) :: Value.pointer (some { block := n, off := 0 }) :: Value.pointer (some { block := n, off := 0 }) :: Value.pointer (some { block := n, off := 2 }) :: Value.pointer (some { block := n, off := 6 }) :: Value.int IntKind.i64 dn :: Value.bool false :: undef :: undef :: undef :: undef :: undef :: undef :: undef :: undef :: undef :: undef :: undef :: undef :: undef :: undef :: undef :: undef :: undef :: vs 0 :: vs 1 :: vs 2 :: vs 3 :: vs 4 :: vs 5 :: vs 6 :: vs 7 :: vs 8 :: vs 9 :: vs 10 :: vs 11 :: vs 12 :: vs 13 :: vs 14 :: vs 15 :: vs 16 :: vs 17 :: vs 18 :: vs 19 :: vs 20 :: vs 21 :: vs 22 :: vs 23 :: vs 24 :: vs 25 :: vs 26 :: vs 27 :: undef :: undef :: undef :: undef :: undef :: undef :: undef :: undef :: undef :: undef :: undef :: undef :: undef :: undef :: undef :: undef :: undef :: undef :: undef :: undef :: undef :: undef :: undef :: undef :: undef :: []), defers := [] } := ⟨_, rfl⟩
    have HLIT := Lib.hid hlit
    clear hlit
    obtain ⟨val, hval⟩ : ∃ val : List Value, val = [.pointer (some ⟨k, 4, none⟩), .int .i64 (dn + 1), .pointer (some ⟨n, 0, none⟩), .pointer (some ⟨n, 0, none⟩), .pointer (some ⟨n, 2, none⟩), .pointer (some ⟨n, 6, none⟩), .int .i64 dn, .int .i64 (dn + 1), .bool false, .bool false, .pointer (some ⟨n, 0, none⟩), .pointer (some ⟨n, 0, none⟩), .pointer (some ⟨n, 8, none⟩), .slice da D.length dc, .pointer (some ⟨w.heap.size, 0, none⟩), .int .i64 a, .bool false, .bool false, .bool false, .pointer (some ⟨w.heap.size, 1, none⟩), .int .i64 b, .pointer (some ⟨n, 0, none⟩), .pointer (some ⟨n, 0, none⟩), .pointer (some ⟨n, 2, none⟩), .pointer (some ⟨n, 4, none⟩), .int .i64 f, .bool false, .bool false] := ⟨_, rfl⟩
    have E0 := Lib.hid (show val.getD 0 undef = .pointer (some ⟨k, 4, none⟩) by rw [hval]; rfl)
    have E1 := Lib.hid (show val.getD 1 undef = .int .i64 (dn + 1) by rw [hval]; rfl)
    have E2 := Lib.hid (show val.getD 2 undef = .pointer (some ⟨n, 0, none⟩) by rw [hval]; rfl)
    have E3 := Lib.hid (show val.getD 3 undef = .pointer (some ⟨n, 0, none⟩) by rw [hval]; rfl)
    have E4 := Lib.hid (show val.getD 4 undef = .pointer (some ⟨n, 2, none⟩) by rw [hval]; rfl)
    have E5 := Lib.hid (show val.getD 5 undef = .pointer (some ⟨n, 6, none⟩) by rw [hval]; rfl)
    have E6 := Lib.hid (show val.getD 6 undef = .int .i64 dn by rw [hval]; rfl)
    have E7 := Lib.hid (show val.getD 7 undef = .int .i64 (dn + 1) by rw [hval]; rfl)
    have E8 := Lib.hid (show val.getD 8 undef = .bool false by rw [hval]; rfl)
    have E9 := Lib.hid (show val.getD 9 undef = .bool false by rw [hval]; rfl)
    have E10 := Lib.hid (show val.getD 10 undef = .pointer (some ⟨n, 0, none⟩) by rw [hval]; rfl)
    have E11 := Lib.hid (show val.getD 11 undef = .pointer (some ⟨n, 0, none⟩) by rw [hval]; rfl)
    have E12 := Lib.hid (show val.getD 12 undef = .pointer (some ⟨n, 8, none⟩) by rw [hval]; rfl)
    have E13 := Lib.hid (show val.getD 13 undef = .slice da D.length dc by rw [hval]; rfl)
    have E14 := Lib.hid (show val.getD 14 undef = .pointer (some ⟨w.heap.size, 0, none⟩) by rw [hval]; rfl)
    have E15 := Lib.hid (show val.getD 15 undef = .int .i64 a by rw [hval]; rfl)
    have E16 := Lib.hid (show val.getD 16 undef = .bool false by rw [hval]; rfl)
    have E17 := Lib.hid (show val.getD 17 undef = .bool false by rw [hval]; rfl)
    have E18 := Lib.hid (show val.getD 18 undef = .bool false by rw [hval]; rfl)
    have E19 := Lib.hid (show val.getD 19 undef = .pointer (some ⟨w.heap.size, 1, none⟩) by rw [hval]; rfl)
    have E20 := Lib.hid (show val.getD 20 undef = .int .i64 b by rw [hval]; rfl)
    have E21 := Lib.hid (show val.getD 21 undef = .pointer (some ⟨n, 0, none⟩) by rw [hval]; rfl)
    have E22 := Lib.hid (show val.getD 22 undef = .pointer (some ⟨n, 0, none⟩) by rw [hval]; rfl)
    have E23 := Lib.hid (show val.getD 23 undef = .pointer (some ⟨n, 2, none⟩) by rw [hval]; rfl)
    have E24 := Lib.hid (show val.getD 24 undef = .pointer (some ⟨n, 4, none⟩) by rw [hval]; rfl)
    have E25 := Lib.hid (show val.getD 25 undef = .int .i64 f by rw [hval]; rfl)
    have E26 := Lib.hid (show val.getD 26 undef = .bool false by rw [hval]; rfl)
    have E27 := Lib.hid (show val.getD 27 undef = .bool false by rw [hval]; rfl)
    clear hval
    obtain ⟨G, hG0⟩ : ∃ G : Nat → Value → World → Prop, G = (fun i v w => (v = val.getD i undef)) := ⟨_, rfl⟩
    have HG := Lib.hid hG0
    clear hG0
    refine region_inv (RS lit wd G) (by kernel_rfl) (by decide +kernel) ?_ ?_ ?_
    · exact ⟨fun i => ([undef, undef, undef, undef, undef, undef, undef, undef, undef, undef, undef, undef, undef, undef, undef, undef, undef, undef, undef, undef, undef, undef, undef, undef, undef, undef, undef, undef] : List Value).getD i undef, (by rw [HLIT.out]; rfl), below_drew _ _, fun i h => by cases h⟩
    · refine ⟨?_, ?_, ?_, ?_, ?_, ?_, ?_, ?_, ?_, ?_, ?_, ?_, ?_, ?_, ?_, ?_, ?_, ?_, ?_, ?_, ?_, ?_, ?_, ?_, ?_, ?_, ?_, ?_, trivial⟩
      · intro bf ac wv hfb haf hJ K' hK
        obtain ⟨vs, rfl, hM, j4⟩ := hJ
        replace hK := Lib.hid hK
        replace hM := Lib.hid hM
        rw [HG.out] at j4
        replace j4 := Lib.hid j4
        clear haf hfb
        rw [HLIT.out]
        go_simp
        exact hK.out _ _ (RS.next (wv := wv) (vs := vs) 0 (x := .pointer (some ⟨k, 4, none⟩)) (by rw [HLIT.out]; rfl) (by rw [HG.out]; exact j4.out) hM.out (by rw [HG.out]; exact fun _ _ h => h) (by rw [HG.out]; exact E0.out.symm))
      · intro bf ac wv hfb haf hJ K' hK
        obtain ⟨vs, rfl, hM, j4⟩ := hJ
        replace hK := Lib.hid hK
        replace hM := Lib.hid hM
        rw [HG.out] at j4
        simp [Region.binds] at haf
        have e0 := ((j4 0 (by simp [haf]))).trans E0.out
        replace j4 := Lib.hid j4
        clear haf hfb
        have xk4 := (H16.out.step hM.out).c 4 rfl
        have xkz := (H16.out.step hM.out).2.2
        rw [HLIT.out]
        go_simp
        exact hK.out _ _ (RS.next (wv := wv) (vs := vs) 1 (x := .int .i64 (dn + 1)) (by rw [HLIT.out]; simp only [upv, e0, Nat.reduceBEq, cond_true, cond_false]) (by rw [HG.out]; exact j4.out) hM.out (by rw [HG.out]; exact fun _ _ h => h) (by rw [HG.out]; exact E1.out.symm))
      · intro bf ac wv hfb haf hJ K' hK
        obtain ⟨vs, rfl, hM, j4⟩ := hJ
        replace hK := Lib.hid hK
        replace hM := Lib.hid hM
        rw [HG.out] at j4
        replace j4 := Lib.hid j4
        clear haf hfb
        rw [HLIT.out]
        go_simp
        exact hK.out _ _ (RS.next (wv := wv) (vs := vs) 2 (x := .pointer (some ⟨n, 0, none⟩)) (by rw [HLIT.out]; rfl) (by rw [HG.out]; exact j4.out) hM.out (by rw [HG.out]; exact fun _ _ h => h) (by rw [HG.out]; exact E2.out.symm))
      · intro bf ac wv hfb haf hJ K' hK
        obtain ⟨vs, rfl, hM, j4⟩ := hJ
        replace hK := Lib.hid hK
        replace hM := Lib.hid hM
        rw [HG.out] at j4
        simp [Region.binds] at haf
        have e2 := ((j4 2 (by simp [haf]))).trans E2.out
        replace j4 := Lib.hid j4
        clear haf hfb
        rw [HLIT.out]
        go_simp
        exact hK.out _ _ (RS.next (wv := wv) (vs := vs) 3 (x := .pointer (some ⟨n, 0, none⟩)) (by rw [HLIT.out]; simp only [upv, e2, Nat.reduceBEq, cond_true, cond_false]) (by rw [HG.out]; exact j4.out) hM.out (by rw [HG.out]; exact fun _ _ h => h) (by rw [HG.out]; exact E3.out.symm))
      · intro bf ac wv hfb haf hJ K' hK
        obtain ⟨vs, rfl, hM, j4⟩ := hJ
        replace hK := Lib.hid hK
        replace hM := Lib.hid hM
        rw [HG.out] at j4
        simp [Region.binds] at haf
        have e3 := ((j4 3 (by simp [haf]))).trans E3.out
        replace j4 := Lib.hid j4
        clear haf hfb
        rw [HLIT.out]
        go_simp
        exact hK.out _ _ (RS.next (wv := wv) (vs := vs) 4 (x := .pointer (some ⟨n, 2, none⟩)) (by rw [HLIT.out]; simp only [upv, e3, Nat.reduceBEq, cond_true, cond_false]) (by rw [HG.out]; exact j4.out) hM.out (by rw [HG.out]; exact fun _ _ h => h) (by rw [HG.out]; exact E4.out.symm))
      · intro bf ac wv hfb haf hJ K' hK
        obtain ⟨vs, rfl, hM, j4⟩ := hJ
        replace hK := Lib.hid hK
        replace hM := Lib.hid hM
        rw [HG.out] at j4
        simp [Region.binds] at haf
        have e4 := ((j4 4 (by simp [haf]))).trans E4.out
        replace j4 := Lib.hid j4
        clear haf hfb
        rw [HLIT.out]
        go_simp
        exact hK.out _ _ (RS.next (wv := wv) (vs := vs) 5 (x := .pointer (some ⟨n, 6, none⟩)) (by rw [HLIT.out]; simp only [upv, e4, Nat.reduceBEq, cond_true, cond_false]) (by rw [HG.out]; exact j4.out) hM.out (by rw [HG.out]; exact fun _ _ h => h) (by rw [HG.out]; exact E5.out.symm))
      · intro bf ac wv hfb haf hJ K' hK
        obtain ⟨vs, rfl, hM, j4⟩ := hJ
        replace hK := Lib.hid hK
        replace hM := Lib.hid hM
        rw [HG.out] at j4
        simp [Region.binds] at haf
        have e5 := ((j4 5 (by simp [haf]))).trans E5.out
        replace j4 := Lib.hid j4
        clear haf hfb
        have xx6 := (H13.out.step hM.out).cs.c 6 rfl
        have xxz := (H13.out.step hM.out).cs.2.2
        rw [HLIT.out]
        go_simp
        exact hK.out _ _ (RS.next (wv := wv) (vs := vs) 6 (x := .int .i64 dn) (by rw [HLIT.out]; simp only [upv, e5, Nat.reduceBEq, cond_true, cond_false]) (by rw [HG.out]; exact j4.out) hM.out (by rw [HG.out]; exact fun _ _ h => h) (by rw [HG.out]; exact E6.out.symm))
      · intro bf ac wv hfb haf hJ K' hK
        obtain ⟨vs, rfl, hM, j4⟩ := hJ
        replace hK := Lib.hid hK
        replace hM := Lib.hid hM
        rw [HG.out] at j4
        simp [Region.binds] at haf
        have e6 := ((j4 6 (by simp [haf]))).trans E6.out
        replace j4 := Lib.hid j4
        clear haf hfb
        rw [HLIT.out]
        go_simp
        exact hK.out _ _ (RS.next (wv := wv) (vs := vs) 7 (x := .int .i64 (dn + 1)) (by rw [HLIT.out]; simp only [upv, e6, HWD.out, Nat.reduceBEq, cond_true, cond_false]) (by rw [HG.out]; exact j4.out) hM.out (by rw [HG.out]; exact fun _ _ h => h) (by rw [HG.out]; exact E7.out.symm))
      · intro bf ac wv hfb haf hJ K' hK
        obtain ⟨vs, rfl, hM, j4⟩ := hJ
        replace hK := Lib.hid hK
        replace hM := Lib.hid hM
        rw [HG.out] at j4
        simp [Region.binds] at haf
        have e1 := ((j4 1 (by simp [haf]))).trans E1.out
        have e7 := ((j4 7 (by simp [haf]))).trans E7.out
        replace j4 := Lib.hid j4
        clear haf hfb
        rw [HLIT.out]
        go_simp
        exact hK.out _ _ (RS.next (wv := wv) (vs := vs) 8 (x := .bool false) (by rw [HLIT.out]; simp only [upv, e1, e7, Nat.reduceBEq, cond_true, cond_false]) (by rw [HG.out]; exact j4.out) hM.out (by rw [HG.out]; exact fun _ _ h => h) (by rw [HG.out]; exact E8.out.symm))
      · intro bf ac wv hfb haf hJ K' hK
        obtain ⟨vs, rfl, hM, j4⟩ := hJ
        replace hK := Lib.hid hK
        replace hM := Lib.hid hM
        rw [HG.out] at j4
        simp [Region.binds] at haf
        have e8 := ((j4 8 (by simp [haf]))).trans E8.out
        replace j4 := Lib.hid j4
        clear haf hfb
        rw [HLIT.out]
        go_simp
        exact hK.out _ _ (RS.next (wv := wv) (vs := vs) 9 (x := .bool false) (by rw [HLIT.out]; simp only [upv, e8, Nat.reduceBEq, cond_true, cond_false]) (by rw [HG.out]; exact j4.out) hM.out (by rw [HG.out]; exact fun _ _ h => h) (by rw [HG.out]; exact E9.out.symm))
      · intro bf ac wv hfb haf hJ K' hK
        obtain ⟨vs, rfl, hM, j4⟩ := hJ
        replace hK := Lib.hid hK
        replace hM := Lib.hid hM
        rw [HG.out] at j4
        simp [Region.binds] at haf
        have e9 := ((j4 9 (by simp [haf]))).trans E9.out
        replace j4 := Lib.hid j4
        clear haf hfb
        rw [HLIT.out]
        go_simp
        exact hK.out _ _ (RS.next (wv := wv) (vs := vs) 10 (x := .pointer (some ⟨n, 0, none⟩)) (by rw [HLIT.out]; simp only [upv, e9, Nat.reduceBEq, cond_true, cond_false]) (by rw [HG.out]; exact j4.out) hM.out (by rw [HG.out]; exact fun _ _ h => h) (by rw [HG.out]; exact E10.out.symm))
      · intro bf ac wv hfb haf hJ K' hK
        obtain ⟨vs, rfl, hM, j4⟩ := hJ
        replace hK := Lib.hid hK
        replace hM := Lib.hid hM
        rw [HG.out] at j4
        simp [Region.binds] at haf
        have e9 := ((j4 9 (by simp [haf]))).trans E9.out
        have e10 := ((j4 10 (by simp [haf]))).trans E10.out
        replace j4 := Lib.hid j4
        clear haf hfb
        rw [HLIT.out]
        go_simp
        exact hK.out _ _ (RS.next (wv := wv) (vs := vs) 11 (x := .pointer (some ⟨n, 0, none⟩)) (by rw [HLIT.out]; simp only [upv, e9, e10, Nat.reduceBEq, cond_true, cond_false]) (by rw [HG.out]; exact j4.out) hM.out (by rw [HG.out]; exact fun _ _ h => h) (by rw [HG.out]; exact E11.out.symm))
      · intro bf ac wv hfb haf hJ K' hK
        obtain ⟨vs, rfl, hM, j4⟩ := hJ
        replace hK := Lib.hid hK
        replace hM := Lib.hid hM
        rw [HG.out] at j4
        simp [Region.binds] at haf
        have e9 := ((j4 9 (by simp [haf]))).trans E9.out
        have e11 := ((j4 11 (by simp [haf]))).trans E11.out
        replace j4 := Lib.hid j4
        clear haf hfb
        rw [HLIT.out]
        go_simp
        exact hK.out _ _ (RS.next (wv := wv) (vs := vs) 12 (x := .pointer (some ⟨n, 8, none⟩)) (by rw [HLIT.out]; simp only [upv, e9, e11, Nat.reduceBEq, cond_true, cond_false]) (by rw [HG.out]; exact j4.out) hM.out (by rw [HG.out]; exact fun _ _ h => h) (by rw [HG.out]; exact E12.out.symm))
      · intro bf ac wv hfb haf hJ K' hK
        obtain ⟨vs, rfl, hM, j4⟩ := hJ
        replace hK := Lib.hid hK
        replace hM := Lib.hid hM
        rw [HG.out] at j4
        simp [Region.binds] at haf
        have e9 := ((j4 9 (by simp [haf]))).trans E9.out
        have e12 := ((j4 12 (by simp [haf]))).trans E12.out
        replace j4 := Lib.hid j4
        clear haf hfb
        have xx8 := (H13.out.step hM.out).cs.c 8 rfl
        have xxz := (H13.out.step hM.out).cs.2.2
        rw [HLIT.out]
        go_simp
        exact hK.out _ _ (RS.next (wv := wv) (vs := vs) 13 (x := .slice da D.length dc) (by rw [HLIT.out]; simp only [upv, e9, e12, Nat.reduceBEq, cond_true, cond_false]) (by rw [HG.out]; exact j4.out) hM.out (by rw [HG.out]; exact fun _ _ h => h) (by rw [HG.out]; exact E13.out.symm))
      · intro bf ac wv hfb haf hJ K' hK
        obtain ⟨vs, rfl, hM, j4⟩ := hJ
        replace hK := Lib.hid hK
        replace hM := Lib.hid hM
        rw [HG.out] at j4
        simp [Region.binds] at haf
        have e9 := ((j4 9 (by simp [haf]))).trans E9.out
        replace j4 := Lib.hid j4
        clear haf hfb
        rw [HLIT.out]
        go_simp
        exact hK.out _ _ (RS.next (wv := wv) (vs := vs) 14 (x := .pointer (some ⟨w.heap.size, 0, none⟩)) (by rw [HLIT.out]; simp only [upv, e9, Nat.reduceBEq, cond_true, cond_false]) (by rw [HG.out]; exact j4.out) hM.out (by rw [HG.out]; exact fun _ _ h => h) (by rw [HG.out]; exact E14.out.symm))
      · intro bf ac wv hfb haf hJ K' hK
        obtain ⟨vs, rfl, hM, j4⟩ := hJ
        replace hK := Lib.hid hK
        replace hM := Lib.hid hM
        rw [HG.out] at j4
        simp [Region.binds] at haf
        have e9 := ((j4 9 (by simp [haf]))).trans E9.out
        have e14 := ((j4 14 (by simp [haf]))).trans E14.out
        replace j4 := Lib.hid j4
        clear haf hfb
        have xp0 := (H14.out.step hM.out).c 0 rfl
        have xpz := (H14.out.step hM.out).2.2
        rw [HLIT.out]
        go_simp
        exact hK.out _ _ (RS.next (wv := wv) (vs := vs) 15 (x := .int .i64 a) (by rw [HLIT.out]; simp only [upv, e9, e14, Nat.reduceBEq, cond_true, cond_false]) (by rw [HG.out]; exact j4.out) hM.out (by rw [HG.out]; exact fun _ _ h => h) (by rw [HG.out]; exact E15.out.symm))
      · intro bf ac wv hfb haf hJ K' hK
        obtain ⟨vs, rfl, hM, j4⟩ := hJ
        replace hK := Lib.hid hK
        replace hM := Lib.hid hM
        rw [HG.out] at j4
        simp [Region.binds] at haf
        have e9 := ((j4 9 (by simp [haf]))).trans E9.out
        have e13 := ((j4 13 (by simp [haf]))).trans E13.out
        have e15 := ((j4 15 (by simp [haf]))).trans E15.out
        replace j4 := Lib.hid j4
        clear haf hfb
        rw [HLIT.out]
        go_simp
        go_at_call 23
        refine (has_any (.slice da D.length dc) D a _ (ods_of_row rfl (H13.out.step hM.out).dl)).mono ?_
        rintro e w4 ⟨rfl, b4⟩
        rw [HDB.out]
        exact hK.out _ _ (RS.next (wv := wv) (vs := vs) 16 (x := .bool false) (by rw [HLIT.out]; simp only [upv, e9, e13, e15, Nat.reduceBEq, cond_true, cond_false]) (by rw [HG.out]; exact j4.out) (keep2 b4 hM.out) (by rw [HG.out]; exact fun _ _ h => h) (by rw [HG.out]; exact E16.out.symm))
      · intro bf ac wv hfb haf hJ K' hK
        obtain ⟨vs, rfl, hM, j4⟩ := hJ
        replace hK := Lib.hid hK
        replace hM := Lib.hid hM
        rw [HG.out] at j4
        simp [Region.binds] at haf
        have e9 := ((j4 9 (by simp [haf]))).trans E9.out
        have e16 := ((j4 16 (by simp [haf]))).trans E16.out
        replace j4 := Lib.hid j4
        clear haf hfb
        rw [HLIT.out]
        go_simp
        exact hK.out _ _ (RS.next (wv := wv) (vs := vs) 17 (x := .bool false) (by rw [HLIT.out]; simp only [upv, e9, e16, Nat.reduceBEq, cond_true, cond_false]) (by rw [HG.out]; exact j4.out) hM.out (by rw [HG.out]; exact fun _ _ h => h) (by rw [HG.out]; exact E17.out.symm))
      · intro bf ac wv hfb haf hJ K' hK
        obtain ⟨vs, rfl, hM, j4⟩ := hJ
        replace hK := Lib.hid hK
        replace hM := Lib.hid hM
        rw [HG.out] at j4
        simp [Region.binds] at haf
        have e17 := ((j4 17 (by simp [haf]))).trans E17.out
        replace j4 := Lib.hid j4
        clear haf hfb
        rw [HLIT.out]
        go_simp
        exact hK.out _ _ (RS.next (wv := wv) (vs := vs) 18 (x := .bool false) (by rw [HLIT.out]; simp only [upv, e17, Nat.reduceBEq, cond_true, cond_false]) (by rw [HG.out]; exact j4.out) hM.out (by rw [HG.out]; exact fun _ _ h => h) (by rw [HG.out]; exact E18.out.symm))
      · intro bf ac wv hfb haf hJ K' hK
        obtain ⟨vs, rfl, hM, j4⟩ := hJ
        replace hK := Lib.hid hK
        replace hM := Lib.hid hM
        rw [HG.out] at j4
        simp [Region.binds] at haf
        have e18 := ((j4 18 (by simp [haf]))).trans E18.out
        replace j4 := Lib.hid j4
        clear haf hfb
        rw [HLIT.out]
        go_simp
        exact hK.out _ _ (RS.next (wv := wv) (vs := vs) 19 (x := .pointer (some ⟨w.heap.size, 1, none⟩)) (by rw [HLIT.out]; simp only [upv, e18, Nat.reduceBEq, cond_true, cond_false]) (by rw [HG.out]; exact j4.out) hM.out (by rw [HG.out]; exact fun _ _ h => h) (by rw [HG.out]; exact E19.out.symm))
      · intro bf ac wv hfb haf hJ K' hK
        obtain ⟨vs, rfl, hM, j4⟩ := hJ
        replace hK := Lib.hid hK
        replace hM := Lib.hid hM
        rw [HG.out] at j4
        simp [Region.binds] at haf
        have e18 := ((j4 18 (by simp [haf]))).trans E18.out
        have e19 := ((j4 19 (by simp [haf]))).trans E19.out
        replace j4 := Lib.hid j4
        clear haf hfb
        have xp1 := (H14.out.step hM.out).c 1 rfl
        have xpz := (H14.out.step hM.out).2.2
        rw [HLIT.out]
        go_simp
        exact hK.out _ _ (RS.next (wv := wv) (vs := vs) 20 (x := .int .i64 b) (by rw [HLIT.out]; simp only [upv, e18, e19, Nat.reduceBEq, cond_true, cond_false]) (by rw [HG.out]; exact j4.out) hM.out (by rw [HG.out]; exact fun _ _ h => h) (by rw [HG.out]; exact E20.out.symm))
      · intro bf ac wv hfb haf hJ K' hK
        obtain ⟨vs, rfl, hM, j4⟩ := hJ
        replace hK := Lib.hid hK
        replace hM := Lib.hid hM
        rw [HG.out] at j4
        simp [Region.binds] at haf
        have e18 := ((j4 18 (by simp [haf]))).trans E18.out
        replace j4 := Lib.hid j4
        clear haf hfb
        rw [HLIT.out]
        go_simp
        exact hK.out _ _ (RS.next (wv := wv) (vs := vs) 21 (x := .pointer (some ⟨n, 0, none⟩)) (by rw [HLIT.out]; simp only [upv, e18, Nat.reduceBEq, cond_true, cond_false]) (by rw [HG.out]; exact j4.out) hM.out (by rw [HG.out]; exact fun _ _ h => h) (by rw [HG.out]; exact E21.out.symm))
      · intro bf ac wv hfb haf hJ K' hK
        obtain ⟨vs, rfl, hM, j4⟩ := hJ
        replace hK := Lib.hid hK
        replace hM := Lib.hid hM
        rw [HG.out] at j4
        simp [Region.binds] at haf
        have e18 := ((j4 18 (by simp [haf]))).trans E18.out
        have e21 := ((j4 21 (by simp [haf]))).trans E21.out
        replace j4 := Lib.hid j4
        clear haf hfb
        rw [HLIT.out]
        go_simp
        exact hK.out _ _ (RS.next (wv := wv) (vs := vs) 22 (x := .pointer (some ⟨n, 0, none⟩)) (by rw [HLIT.out]; simp only [upv, e18, e21, Nat.reduceBEq, cond_true, cond_false]) (by rw [HG.out]; exact j4.out) hM.out (by rw [HG.out]; exact fun _ _ h => h) (by rw [HG.out]; exact E22.out.symm))
      · intro bf ac wv hfb haf hJ K' hK
        obtain ⟨vs, rfl, hM, j4⟩ := hJ
        replace hK := Lib.hid hK
        replace hM := Lib.hid hM
        rw [HG.out] at j4
        simp [Region.binds] at haf
        have e18 := ((j4 18 (by simp [haf]))).trans E18.out
        have e22 := ((j4 22 (by simp [haf]))).trans E22.out
        replace j4 := Lib.hid j4
        clear haf hfb
        rw [HLIT.out]
        go_simp
        exact hK.out _ _ (RS.next (wv := wv) (vs := vs) 23 (x := .pointer (some ⟨n, 2, none⟩)) (by rw [HLIT.out]; simp only [upv, e18, e22, Nat.reduceBEq, cond_true, cond_false]) (by rw [HG.out]; exact j4.out) hM.out (by rw [HG.out]; exact fun _ _ h => h) (by rw [HG.out]; exact E23.out.symm))
      · intro bf ac wv hfb haf hJ K' hK
        obtain ⟨vs, rfl, hM, j4⟩ := hJ
        replace hK := Lib.hid hK
        replace hM := Lib.hid hM
        rw [HG.out] at j4
        simp [Region.binds] at haf
        have e18 := ((j4 18 (by simp [haf]))).trans E18.out
        have e23 := ((j4 23 (by simp [haf]))).trans E23.out
        replace j4 := Lib.hid j4
        clear haf hfb
        rw [HLIT.out]
        go_simp
        exact hK.out _ _ (RS.next (wv := wv) (vs := vs) 24 (x := .pointer (some ⟨n, 4, none⟩)) (by rw [HLIT.out]; simp only [upv, e18, e23, Nat.reduceBEq, cond_true, cond_false]) (by rw [HG.out]; exact j4.out) hM.out (by rw [HG.out]; exact fun _ _ h => h) (by rw [HG.out]; exact E24.out.symm))
      · intro bf ac wv hfb haf hJ K' hK
        obtain ⟨vs, rfl, hM, j4⟩ := hJ
        replace hK := Lib.hid hK
        replace hM := Lib.hid hM
        rw [HG.out] at j4
        simp [Region.binds] at haf
        have e18 := ((j4 18 (by simp [haf]))).trans E18.out
        have e24 := ((j4 24 (by simp [haf]))).trans E24.out
        replace j4 := Lib.hid j4
        clear haf hfb
        have xx4 := (H13.out.step hM.out).cs.c 4 rfl
        have xxz := (H13.out.step hM.out).cs.2.2
        rw [HLIT.out]
        go_simp
        exact hK.out _ _ (RS.next (wv := wv) (vs := vs) 25 (x := .int .i64 f) (by rw [HLIT.out]; simp only [upv, e18, e24, Nat.reduceBEq, cond_true, cond_false]) (by rw [HG.out]; exact j4.out) hM.out (by rw [HG.out]; exact fun _ _ h => h) (by rw [HG.out]; exact E25.out.symm))
      · intro bf ac wv hfb haf hJ K' hK
        obtain ⟨vs, rfl, hM, j4⟩ := hJ
        replace hK := Lib.hid hK
        replace hM := Lib.hid hM
        rw [HG.out] at j4
        simp [Region.binds] at haf
        have e18 := ((j4 18 (by simp [haf]))).trans E18.out
        have e20 := ((j4 20 (by simp [haf]))).trans E20.out
        have e25 := ((j4 25 (by simp [haf]))).trans E25.out
        replace j4 := Lib.hid j4
        clear haf hfb
        rw [HLIT.out]
        go_simp
        exact hK.out _ _ (RS.next (wv := wv) (vs := vs) 26 (x := .bool false) (by rw [HLIT.out]; simp only [upv, e18, e20, e25, Nat.reduceBEq, cond_true, cond_false]) (by rw [HG.out]; exact j4.out) hM.out (by rw [HG.out]; exact fun _ _ h => h) (by rw [HG.out]; exact E26.out.symm))
      · intro bf ac wv hfb haf hJ K' hK
        obtain ⟨vs, rfl, hM, j4⟩ := hJ
        replace hK := Lib.hid hK
        replace hM := Lib.hid hM
        rw [HG.out] at j4
        simp [Region.binds] at haf
        have e18 := ((j4 18 (by simp [haf]))).trans E18.out
        have e26 := ((j4 26 (by simp [haf]))).trans E26.out
        replace j4 := Lib.hid j4
        clear haf hfb
        rw [HLIT.out]
        go_simp
        exact hK.out _ _ (RS.next (wv := wv) (vs := vs) 27 (x := .bool false) (by rw [HLIT.out]; simp only [upv, e18, e26, Nat.reduceBEq, cond_true, cond_false]) (by rw [HG.out]; exact j4.out) hM.out (by rw [HG.out]; exact fun _ _ h => h) (by rw [HG.out]; exact E27.out.symm))
    · intro bf ac wv hall hJ
      obtain ⟨vs, rfl, hM, j4⟩ := hJ
      rw [HG.out] at j4
      have hlast := ((j4 27 (hall 27 (by decide)))).trans E27.out
      clear j4 hall
      rw [HLIT.out]
      dsimp only
      rw [hlast]
      clear hlast HLIT HG
      generalize vs = us8
      replace HRV := Lib.hid (HRV.out.step hM)
      have H17 := Lib.hid (H13.out.step hM)
      have H18 := Lib.hid (H14.out.step hM)
      have H19 := Lib.hid (H15.out.step hM HLE.out)
      have H20 := Lib.hid (H16.out.step hM)
      clear H13 H14 H15 H16
      replace HLE := Lib.hid (H17.out.le)
      clear hM
      obtain ⟨we, hwe⟩ : ∃ z, wv = z := ⟨_, rfl⟩
      rw [hwe] at H17 H18 H19 H20 HRV HLE ⊢
      clear hwe
      go_upto_region 12 with fail
      obtain ⟨lit, hlit⟩ : ∃ lit : (Nat → Value) → Act, lit = fun vs => { tmps := List.toArray (Value.pointer (some { block := n, off := 0 }) :: Value.agg #[Value.int IntKind.i64 a, Value.int IntKind.i64 b, Value.int IntKind.i64 c, Value.int IntKind.i64 d] :: Value.bool cf :: undef :: Value.pointer (some { block := w.heap.size, off := 0 }) :: undef :: Value.bool false :: Value.bool pb :: Value.pointer (some { block := k, off := 0 }) :: Value.bool true :: Value.int IntKind.i64 0 :: Value.pointer (some { block := n, off := 0 }) :: Value.pointer (some { block := n, off := 0 }) :: Value.pointer (some { block := n, off := 0 }) :: Value.pointer (some { block := n, off := 1 }) :: Value.slice pa P.length pc :: Value.pointer (some { block := w.heap.size, off := 0 }) :: Value.int IntKind.i64 a :: Value.bool pb :: u19 :: u20 :: u21 :: u22 :: u23 :: u24 :: u25 :: u26 :: u27 :: u28 :: Value.int IntKind.i64 0 :: Value.bool false :: undef :: undef :: undef :: undef :: undef :: undef :: undef :: undef :: undef :: undef :: undef :: undef :: undef :: undef :: undef :: undef :: undef :: undef :: undef :: undef :: undef :: undef :: undef :: undef :: undef :: undef :: undef :: undef :: undef :: undef :: undef :: undef :: Value.bool true :: Value.bool false :: Value.pointer (some { block := k, off := 4 }) :: Value.int IntKind.i64 (dn + 1) :: Value.pointer (some { block := n, off := 0 }) :: Value.pointer (some { block := n, off := 0 }) :: Value.pointer (some { block := n, off := 2 }) :: Value.pointer (some { block := n, off := 6 }) :: Value.int IntKind.i64 dn :: Value.bool false :: undef :: undef :: undef :: undef :: undef :: undef :: undef :: undef :: undef :: undef :: undef :: undef :: undef :: undef :: undef :: undef :: undef :: us8 0 :: us8 1 :: us8 2 :: us8 3 :: us8 4 :: us8 5 :: us8 6 :: us8 7 :: us8 8 :: us8 9 :: us8 10 :: us8 11 :: us8 12 :: us8 13 :: us8 14 :: us8 15 :: us8 16 :: us8 17 :: us8 18 :: us8 19 :: us8 20 :: us8 21 :: us8 22 :: us8 23 :: us8 24 :: us8 25 :: us8 26 :: Value.bool false :: vs 0 :: vs 1 :: vs 2 :: vs 3 :: vs 4 :: vs 5 :: vs 6 :: vs 7 :: vs 8 :: vs 9 :: undef :: undef :: undef :: undef :: undef :: undef :: undef :: undef :: undef :: undef :: undef :: undef :: undef :: undef :: undef :: []), defers := [] } := ⟨_, rfl⟩
      have HLIT := Lib.hid hlit
      clear hlit
      obtain ⟨val, hval⟩ : ∃ val : List Value, val = [.pointer (some ⟨n, 0, none⟩), .pointer (some ⟨n, 0, none⟩), .pointer (some ⟨n, 0, none⟩), .pointer (some ⟨n, 8, none⟩), .slice da D.length dc, .agg #[.int .i64 a, .int .i64 b, .int .i64 c, .int .i64 d], undef, undef, .pointer (some ⟨n, 0, none⟩), .pointer (some ⟨n, 8, none⟩), undef] := ⟨_, rfl⟩
      have E0 := Lib.hid (show val.getD 0 undef = .pointer (some ⟨n, 0, none⟩) by rw [hval]; rfl)
      have E1 := Lib.hid (show val.getD 1 undef = .pointer (some ⟨n, 0, none⟩) by rw [hval]; rfl)
      have E2 := Lib.hid (show val.getD 2 undef = .pointer (some ⟨n, 0, none⟩) by rw [hval]; rfl)
      have E3 := Lib.hid (show val.getD 3 undef = .pointer (some ⟨n, 8, none⟩) by rw [hval]; rfl)
      have E4 := Lib.hid (show val.getD 4 undef = .slice da D.length dc by rw [hval]; rfl)
      have E5 := Lib.hid (show val.getD 5 undef = .agg #[.int .i64 a, .int .i64 b, .int .i64 c, .int .i64 d] by rw [hval]; rfl)
      have E8 := Lib.hid (show val.getD 8 undef = .pointer (some ⟨n, 0, none⟩) by rw [hval]; rfl)
      have E9 := Lib.hid (show val.getD 9 undef = .pointer (some ⟨n, 8, none⟩) by rw [hval]; rfl)
      clear hval
      obtain ⟨G, hG0⟩ : ∃ G : Bool → Nat → Value → World → Prop, G = (fun bq iq vq ww => (iq = 6 → Qbx ⟨a, b, c, d⟩ bq vq ww) ∧ (iq = 7 → ∃ (da9 : Option Addr) (dc9 : Nat), vq = .slice da9 D'.length dc9 ∧ (bq = true → (∃ w0, WdA base n pa ta va aa da pc tc vc ac dc nx P t L f V dn A D w0 ∧ w0.grownBy ww (Value.slice da D.length dc).ownBlock ∧ ww.ownsRow base 32 4 (.slice da9 D'.length dc9) D'.length (ocs D') ∧ Apd w0 (.slice da D.length dc) (.slice da9 D'.length dc9) ∧ nb2 a1 da9 ∧ nb2 v1 da9 ∧ ∀ q9, q9 < w.heap.size → nb da q9 → nb da9 q9) ∨ (WdA base n pa ta va aa da9 pc tc vc ac dc9 nx P t L f V dn A D' ww ∧ nb2 a1 da9 ∧ nb2 v1 da9 ∧ ∀ q9, q9 < w.heap.size → nb da q9 → nb da9 q9))) ∧ (iq = 10 → bq = true → ∃ (da9 : Option Addr) (dc9 : Nat), (WdA base n pa ta va aa da9 pc tc vc ac dc9 nx P t L f V dn A D' ww ∧ nb2 a1 da9 ∧ nb2 v1 da9 ∧ ∀ q9, q9 < w.heap.size → nb da q9 → nb da9 q9)) ∧ (iq ≠ 6 → iq ≠ 7 → iq ≠ 10 → vq = val.getD iq undef)) := ⟨_, rfl⟩
      have HG := Lib.hid hG0
      clear hG0
      refine region_inv (NS lit 7 (fun p q => (p == 7 && q == 4) || (p == 7 && q == 6) || (p == 6 && q == 5) || (p == 10 && q == 7)) G fun bq wv => (bq = false → Below we.heap.size we wv) ∧ (bq = true → FB base n da we wv ∧ Cs wv k #[.int .i64 T', .slice a1 16 c1, .int .i64 b, .slice v1 4 d1, .int .i64 (dn + 1)] ∧ Cs wv w.heap.size #[.int .i64 a, .int .i64 b, .int .i64 c, .int .i64 d] ∧ RvS w3.heap.size L' V' c1 d1 a1 v1 wv)) (by kernel_rfl) (by decide +kernel) ?_ ?_ ?_
      · exact NS.start (fun i => ([undef, undef, undef, undef, undef, undef, undef, undef, undef, undef, undef] : List Value).getD i undef) (by rw [HLIT.out]; rfl) ⟨fun _ => below_drew _ _, fun h => (by cases h)⟩
      · refine ⟨?_, ?_, ?_, ?_, ?_, ?_, ?_, ?_, ?_, ?_, ?_, trivial⟩
        · intro bf ac wv hfb haf hJ K' hK
          obtain ⟨vs, rfl, ja, hB, j4⟩ := hJ
          replace hK := Lib.hid hK
          rw [HG.out] at j4
          replace j4 := Lib.hid (And.intro ja j4)
          replace hB := Lib.hid hB
          clear ja haf
          rw [HLIT.out]
          go_simp
          exact hK.out _ _ (NS.next (vs := vs) 0 (by omega) (fun q h => absurd h (by simp)) (x := .pointer (some ⟨n, 0, none⟩)) (by rw [HLIT.out]; rfl) (by rw [HG.out]; exact j4.out) hB.out (by rw [HG.out]; exact fun _ _ h => h) (by rw [HG.out]; exact ⟨fun h => absurd h (by decide), fun h => absurd h (by decide), fun h => absurd h (by decide), fun _ _ _ => E0.out.symm⟩))
        · intro bf ac wv hfb haf hJ K' hK
          obtain ⟨vs, rfl, ja, hB, j4⟩ := hJ
          replace hK := Lib.hid hK
          rw [HG.out] at j4
          replace j4 := Lib.hid (And.intro ja j4)
          replace hB := Lib.hid hB
          clear ja haf
          rw [HLIT.out]
          go_simp
          exact hK.out _ _ (NS.next (vs := vs) 1 (by omega) (fun q h => absurd h (by simp)) (x := .pointer (some ⟨n, 0, none⟩)) (by rw [HLIT.out]; rfl) (by rw [HG.out]; exact j4.out) hB.out (by rw [HG.out]; exact fun _ _ h => h) (by rw [HG.out]; exact ⟨fun h => absurd h (by decide), fun h => absurd h (by decide), fun h => absurd h (by decide), fun _ _ _ => E1.out.symm⟩))
        · intro bf ac wv hfb haf hJ K' hK
          obtain ⟨vs, rfl, ja, hB, j4⟩ := hJ
          replace hK := Lib.hid hK
          simp [Region.binds] at haf
          rw [HG.out] at j4
          have e1 := ((j4 1 (by simp [haf])).2.2.2 (by decide) (by decide) (by decide)).trans E1.out
          replace j4 := Lib.hid (And.intro ja j4)
          replace hB := Lib.hid hB
          clear ja haf
          rw [HLIT.out]
          go_simp
          exact hK.out _ _ (NS.next (vs := vs) 2 (by omega) (fun q h => absurd h (by simp)) (x := .pointer (some ⟨n, 0, none⟩)) (by rw [HLIT.out]; simp only [upv, e1, Nat.reduceBEq, cond_true, cond_false]) (by rw [HG.out]; exact j4.out) hB.out (by rw [HG.out]; exact fun _ _ h => h) (by rw [HG.out]; exact ⟨fun h => absurd h (by decide), fun h => absurd h (by decide), fun h => absurd h (by decide), fun _ _ _ => E2.out.symm⟩))
        · intro bf ac wv hfb haf hJ K' hK
          obtain ⟨vs, rfl, ja, hB, j4⟩ := hJ
          replace hK := Lib.hid hK
          simp [Region.binds] at haf
          rw [HG.out] at j4
          have e2 := ((j4 2 (by simp [haf])).2.2.2 (by decide) (by decide) (by decide)).trans E2.out
          replace j4 := Lib.hid (And.intro ja j4)
          replace hB := Lib.hid hB
          clear ja haf
          rw [HLIT.out]
          go_simp
          exact hK.out _ _ (NS.next (vs := vs) 3 (by omega) (fun q h => absurd h (by simp)) (x := .pointer (some ⟨n, 8, none⟩)) (by rw [HLIT.out]; simp only [upv, e2, Nat.reduceBEq, cond_true, cond_false]) (by rw [HG.out]; exact j4.out) hB.out (by rw [HG.out]; exact fun _ _ h => h) (by rw [HG.out]; exact ⟨fun h => absurd h (by decide), fun h => absurd h (by decide), fun h => absurd h (by decide), fun _ _ _ => E3.out.symm⟩))
        · intro bf ac wv hfb haf hJ K' hK
          obtain ⟨vs, rfl, ja, hB, j4⟩ := hJ
          replace hK := Lib.hid hK
          simp [Region.binds] at haf
          rw [HG.out] at j4
          have e3 := ((j4 3 (by simp [haf])).2.2.2 (by decide) (by decide) (by decide)).trans E3.out
          have hd : bf 7 = false := by
            cases h : bf 7
            · rfl
            · exact absurd ((ja 7 4 rfl h).symm.trans hfb) (by simp)
          have hM := Lib.hid (hB.1 hd)
          replace j4 := Lib.hid (And.intro ja j4)
          replace hB := Lib.hid hB
          clear ja haf
          have xx8 := (H17.out.step hM.out).cs.c 8 rfl
          have xxz := (H17.out.step hM.out).cs.2.2
          rw [HLIT.out]
          go_simp
          exact hK.out _ _ (NS.next (vs := vs) 4 (by omega) (fun q h => absurd h (by simp)) (x := .slice da D.length dc) (by rw [HLIT.out]; simp only [upv, e3, Nat.reduceBEq, cond_true, cond_false]) (by rw [HG.out]; exact j4.out) hB.out (by rw [HG.out]; exact fun _ _ h => h) (by rw [HG.out]; exact ⟨fun h => absurd h (by decide), fun h => absurd h (by decide), fun h => absurd h (by decide), fun _ _ _ => E4.out.symm⟩))
        · intro bf ac wv hfb haf hJ K' hK
          obtain ⟨vs, rfl, ja, hB, j4⟩ := hJ
          replace hK := Lib.hid hK
          rw [HG.out] at j4
          have hd : bf 7 = false := by
            cases h : bf 7
            · rfl
            · exact absurd ((ja 6 5 rfl (ja 7 6 rfl h)).symm.trans hfb) (by simp)
          have hM := Lib.hid (hB.1 hd)
          replace j4 := Lib.hid (And.intro ja j4)
          replace hB := Lib.hid hB
          clear ja haf
          have xp0 := (H18.out.step hM.out).c 0 rfl
          have xp1 := (H18.out.step hM.out).c 1 rfl
          have xp2 := (H18.out.step hM.out).c 2 rfl
          have xp3 := (H18.out.step hM.out).c 3 rfl
          have xpz := (H18.out.step hM.out).2.2
          rw [HLIT.out]
          go_simp
          exact hK.out _ _ (NS.next (vs := vs) 5 (by omega) (fun q h => absurd h (by simp)) (x := .agg #[.int .i64 a, .int .i64 b, .int .i64 c, .int .i64 d]) (by rw [HLIT.out]; rfl) (by rw [HG.out]; exact j4.out) hB.out (by rw [HG.out]; exact fun _ _ h => h) (by rw [HG.out]; exact ⟨fun h => absurd h (by decide), fun h => absurd h (by decide), fun h => absurd h (by decide), fun _ _ _ => E5.out.symm⟩))
        · intro bf ac wv hfb haf hJ K' hK
          obtain ⟨vs, rfl, ja, hB, j4⟩ := hJ
          replace hK := Lib.hid hK
          simp [Region.binds] at haf
          rw [HG.out] at j4
          have e5 := ((j4 5 (by simp [haf])).2.2.2 (by decide) (by decide) (by decide)).trans E5.out
          have hd : bf 7 = false := by
            cases h : bf 7
            · rfl
            · exact absurd ((ja 7 6 rfl h).symm.trans hfb) (by simp)
          have hM := Lib.hid (hB.1 hd)
          have HA := Lib.hid (show ∀ q, (fun p q => (p == 7 && q == 4) || (p == 7 && q == 6) || (p == 6 && q == 5) || (p == 10 && q == 7)) 6 q = true → bf q = true from fun q hi => by
            obtain rfl : q = 5 := by simpa [or_assoc] using hi
            all_goals simp [haf])
          replace j4 := Lib.hid (And.intro ja j4)
          replace hB := Lib.hid hB
          clear ja haf
          rw [HLIT.out]
          go_simp
          have b4 := al wv (.cells #[.int .i64 a, .int .i64 b, .int .i64 c, .int .i64 d] 32)
          exact hK.out _ _ (NS.next (vs := vs) 6 (by omega) (HA.out) (x := (.slice (some ⟨wv.heap.size, 0, none⟩) 1 1)) (by rw [HLIT.out]; simp only [upv, e5, Nat.reduceBEq, cond_true, cond_false]) (by rw [HG.out]; exact j4.out) ⟨fun _ => keep2 b4 hM.out, fun e => absurd (e.symm.trans hd) (by simp)⟩ (by rw [HG.out]; exact fun k hbk h => ⟨fun q => (h.1 q).step b4, fun q => (by obtain ⟨x8, x9, e8, -⟩ := (h.2.1 q); exact ⟨x8, x9, e8, fun e => absurd (e.symm.trans hd) (by simp)⟩), fun q => (fun e => absurd (e.symm.trans hd) (by simp)), h.2.2.2⟩) (by rw [HG.out]; exact ⟨fun _ => ⟨wv.heap.size, rfl, fun _ => BoxN.new wv #[.int .i64 a, .int .i64 b, .int .i64 c, .int .i64 d] 32⟩, fun h => absurd h (by decide), fun h => absurd h (by decide), fun h6 => absurd rfl h6⟩))
        · intro bf ac wv hfb haf hJ K' hK
          obtain ⟨vs, rfl, ja, hB, j4⟩ := hJ
          replace hK := Lib.hid hK
          simp [Region.binds] at haf
          rw [HG.out] at j4
          have e4 := ((j4 4 (by simp [haf])).2.2.2 (by decide) (by decide) (by decide)).trans E4.out
          have e6 := (j4 6 (by simp [haf])).1 rfl
          rw [hfb] at j4 hB
          try rw [hfb] at e6
          have HA := Lib.hid (show ∀ q, (fun p q => (p == 7 && q == 4) || (p == 7 && q == 6) || (p == 6 && q == 5) || (p == 10 && q == 7)) 7 q = true → bf q = true from fun q hi => by
            obtain rfl | rfl : q = 4 ∨ q = 6 := by simpa [or_assoc] using hi
            all_goals simp [haf])
          have hz10 : bf 10 = false := by
            cases h : bf 10
            · rfl
            · exact absurd ((ja 10 7 rfl h).symm.trans hfb) (by simp)
          have hM := Lib.hid (hB.1 rfl)
          replace j4 := Lib.hid j4
          have HE := Lib.hid (And.intro ja HA.out)
          clear ja haf hB HA
          obtain ⟨g9, e6, hbx⟩ := e6
          replace hbx := hbx rfl
          have hWv := H17.out.step hM.out
          obtain ⟨da9, dc9, w8, hr8, hg8, ho8, ha8⟩ := app_row (x := ⟨a, b, c, d⟩) hWv.dl hbx HDL.out HDD.out hWv.le
          have hr9 : RvS w3.heap.size L' V' c1 d1 a1 v1 wv := HRV.out.step hM.out
          have hk9 := H20.out.step hM.out
          have hO9 := H18.out.step hM.out
          have n1 : nb2 a1 da9 := ha8.nb2 hWv.dl HND.out.1 (bos_ltN hr9.2.1 (by decide))
          have n2 : nb2 v1 da9 := ha8.nb2 hWv.dl HND.out.2 (ints_ltN hr9.2.2.1 (by decide))
          have n3 : ∀ q9, q9 < w.heap.size → nb da q9 → nb da9 q9 := fun q9 h1 h2 => ha8.nb hWv.dl h2 (Nat.lt_of_lt_of_le h1 (Nat.le_trans H19.out.1.size hM.out.size))
          rw [HLIT.out]
          refine step_app rfl _ _ 22 rfl _ _ _ e4 e6 hr8 ?_
          refine hK.out _ _ (NS.piv (vs := vs) (x := .slice da9 D'.length dc9) (by rw [HLIT.out]; rfl) HE.out ⟨fun e => (by cases e), fun _ => ⟨((FB.refl base n da we).step hM.out HLE.out).grown hg8 hWv.dl hWv.le, cs_kept hk9 hg8 (nb_own rfl hWv.dl HKD.out), cs_kept hO9 hg8 (nb_own rfl hWv.dl HOD.out), hr9.1, bos_kept hr9.2.1 hg8 (nb2_own rfl hWv.dl HND.out.1), ints_kept hr9.2.2.1 hg8 (nb2_own rfl hWv.dl HND.out.2), hr9.2.2.2⟩⟩ (fun j hj hb => ?_) (by rw [HG.out]; exact ⟨fun h => absurd h (by decide), fun _ => ⟨da9, dc9, rfl, fun _ => .inl ⟨wv, hWv, hg8, ho8, ha8, n1, n2, n3⟩⟩, fun h => absurd h (by decide), fun h6 => fun h7 => absurd rfl h7⟩))
          rw [HG.out]
          have q := j4.out j hb
          exact ⟨fun h => (q.1 h).put _, fun h => absurd h hj, fun h => (by rw [h, hz10] at hb; cases hb), q.2.2.2⟩
        · intro bf ac wv hfb haf hJ K' hK
          obtain ⟨vs, rfl, ja, hB, j4⟩ := hJ
          replace hK := Lib.hid hK
          simp [Region.binds] at haf
          rw [HG.out] at j4
          have e0 := ((j4 0 (by simp [haf])).2.2.2 (by decide) (by decide) (by decide)).trans E0.out
          replace j4 := Lib.hid (And.intro ja j4)
          replace hB := Lib.hid hB
          clear ja haf
          rw [HLIT.out]
          go_simp
          exact hK.out _ _ (NS.next (vs := vs) 8 (by omega) (fun q h => absurd h (by simp)) (x := .pointer (some ⟨n, 0, none⟩)) (by rw [HLIT.out]; simp only [upv, e0, Nat.reduceBEq, cond_true, cond_false]) (by rw [HG.out]; exact j4.out) hB.out (by rw [HG.out]; exact fun _ _ h => h) (by rw [HG.out]; exact ⟨fun h => absurd h (by decide), fun h => absurd h (by decide), fun h => absurd h (by decide), fun _ _ _ => E8.out.symm⟩))
        · intro bf ac wv hfb haf hJ K' hK
          obtain ⟨vs, rfl, ja, hB, j4⟩ := hJ
          replace hK := Lib.hid hK
          simp [Region.binds] at haf
          rw [HG.out] at j4
          have e8 := ((j4 8 (by simp [haf])).2.2.2 (by decide) (by decide) (by decide)).trans E8.out
          replace j4 := Lib.hid (And.intro ja j4)
          replace hB := Lib.hid hB
          clear ja haf
          rw [HLIT.out]
          go_simp
          exact hK.out _ _ (NS.next (vs := vs) 9 (by omega) (fun q h => absurd h (by simp)) (x := .pointer (some ⟨n, 8, none⟩)) (by rw [HLIT.out]; simp only [upv, e8, Nat.reduceBEq, cond_true, cond_false]) (by rw [HG.out]; exact j4.out) hB.out (by rw [HG.out]; exact fun _ _ h => h) (by rw [HG.out]; exact ⟨fun h => absurd h (by decide), fun h => absurd h (by decide), fun h => absurd h (by decide), fun _ _ _ => E9.out.symm⟩))
        · intro bf ac wv hfb haf hJ K' hK
          obtain ⟨vs, rfl, ja, hB, j4⟩ := hJ
          replace hK := Lib.hid hK
          simp [Region.binds] at haf
          rw [HG.out] at j4
          have e7 := (j4 7 (by simp [haf])).2.1 rfl
          have e9 := ((j4 9 (by simp [haf])).2.2.2 (by decide) (by decide) (by decide)).trans E9.out
          have hb7 : bf 7 = true := by simp [haf]
          replace j4 := Lib.hid (And.intro ja j4)
          have HMB := Lib.hid (hB.2 hb7)
          rw [hb7] at e7
          obtain ⟨da9, dc9, e7, hor⟩ := e7
          replace hor := Lib.hid (hor rfl)
          clear ja haf hB
          obtain ⟨xx9, x8, y8, x8z⟩ : ∃ xx9, wv.cell? ⟨n, 8, none⟩ = some xx9 ∧ wv.frozen? ⟨n, 8, none⟩ = false ∧ n < wv.heap.size := by
            rcases hor.out with ⟨w0, h0, hg, -⟩ | ⟨h0, -⟩
            · have hc := cs_kept h0.cs hg (nb_own rfl h0.dl h0.nd)
              exact ⟨_, hc.c 8 rfl, hc.f 8 (by simp), hc.2.2⟩
            · exact ⟨_, h0.cs.c 8 rfl, h0.cs.f 8 (by simp), h0.cs.2.2⟩
          rw [HLIT.out]
          go_simp
          have hfin : (WdA base n pa ta va aa da9 pc tc vc ac dc9 nx P t L f V dn A D' (wv.setCell ⟨n, 8, none⟩ (.slice da9 D'.length dc9)) ∧ nb2 a1 da9 ∧ nb2 v1 da9 ∧ ∀ q9, q9 < w.heap.size → nb da q9 → nb da9 q9) := by
            rcases hor.out with ⟨w0, h0, hg, hr, ha, n1, n2, n3⟩ | ⟨h0, n1, n2, n3⟩
            · exact ⟨h0.app hg hr ha, n1, n2, n3⟩
            · exact ⟨h0.re8, n1, n2, n3⟩
          have hgs := grown_set wv n 8 (.slice da9 D'.length dc9)
          refine hK.out _ _ (NS.next (vs := vs) 10 (by omega) (fun q h => by
            obtain rfl : q = 7 := by simpa using h
            exact hb7) (x := undef) (by rw [HLIT.out]; simp only [upv, e7, e9, Nat.reduceBEq, cond_false]) (by rw [HG.out]; exact j4.out) ⟨fun e => absurd (e.symm.trans hb7) (by simp), fun _ => ⟨HMB.out.1.setN HBN.out 8 _, cs_kept HMB.out.2.1 hgs HKN.out, cs_kept HMB.out.2.2.1 hgs HON.out, HMB.out.2.2.2.1, bos_kept HMB.out.2.2.2.2.1 hgs (nb_some HNN.out.1), ints_kept HMB.out.2.2.2.2.2.1 hgs (nb_some HNN.out.2), HMB.out.2.2.2.2.2.2⟩⟩ ?_ (by rw [HG.out]; exact ⟨fun h => absurd h (by decide), fun h => absurd h (by decide), fun _ => fun _ => ⟨da9, dc9, hfin⟩, fun h6 => fun h7 => fun h10 => absurd rfl h10⟩))
          rw [HG.out, hb7]
          intro kk hbk hh
          exact ⟨fun q => (hh.1 q).put _, fun q => (by subst q; exact ⟨da9, dc9, e7, fun _ => .inr hfin⟩), fun q => (by rw [q, hfb] at hbk; cases hbk), hh.2.2.2⟩
      · intro bf ac wv hall hJ
        obtain ⟨vs, rfl, -, hB, j4⟩ := hJ
        rw [HG.out] at j4
        rw [hall 7 (by decide)] at hB j4
        have hM := Lib.hid (hB.2 rfl)
        clear hB
        obtain ⟨da9, dc9, h9, n1, n2, n3⟩ := (j4 10 (hall 10 (by decide))).2.2.1 rfl rfl
        have HF := Lib.hid h9
        have HDQ := Lib.hid n3
        replace HND := Lib.hid (And.intro n1 n2)
        clear j4 hall h9 n1 n2 n3
        rw [HLIT.out]
        dsimp only
        clear HLIT HG
        generalize vs = us12
        have HBX := Lib.hid (H19.out.tr hM.out.1)
        have HKX := Lib.hid hM.out.2.1
        have HOX := Lib.hid hM.out.2.2.1
        replace HRV := Lib.hid hM.out.2.2.2
        clear hM H17 H20 H19 H18
        have HLE := Lib.hid HF.out.le
        go_upto_region 13 with fail
        have xk0 := HKX.out.c 0 rfl
        have xk1 := HKX.out.c 1 rfl
        have xk2 := HKX.out.c 2 rfl
        have xk3 := HKX.out.c 3 rfl
        have xk4 := HKX.out.c 4 rfl
        have xkz := HKX.out.2.2
        have xw2 := HF.out.cs.c 2 rfl
        have xw3 := HF.out.cs.c 3 rfl
        have xw4 := HF.out.cs.c 4 rfl
        have xw5 := HF.out.cs.c 5 rfl
        have xw6 := HF.out.cs.c 6 rfl
        have yw2 := HF.out.cs.f 2 (by simp)
        have yw3 := HF.out.cs.f 3 (by simp)
        have yw4 := HF.out.cs.f 4 (by simp)
        have yw5 := HF.out.cs.f 5 (by simp)
        have yw6 := HF.out.cs.f 6 (by simp)
        have xwz := HF.out.cs.2.2
        have HS := Lib.hid (HF.out.setr (t' := T') (f' := b) (dn' := (dn + 1)) HRV.out.2.1 HRV.out.1 HRV.out.2.2.1 HNN.out.1 HNN.out.2 HNA.out.1 HNA.out.2 HND.out.1 HND.out.2)
        have HSB := Lib.hid (show FB base n da w (((((wv.setCell ⟨n, 2, none⟩ (.int .i64 T')).setCell ⟨n, 3, none⟩ (.slice a1 16 c1)).setCell ⟨n, 4, none⟩ (.int .i64 b)).setCell ⟨n, 5, none⟩ (.slice v1 4 d1)).setCell ⟨n, 6, none⟩ (.int .i64 (dn + 1))) from (((((HBX.out.setN HBN.out 2 _).setN HBN.out 3 _).setN HBN.out 4 _).setN HBN.out 5 _).setN HBN.out 6 _))
        have HNO := Lib.hid (show w.heap.size ≠ n from fun q => by have h1 := HNW.out; omega)
        have HOY := Lib.hid (show Cs (((((wv.setCell ⟨n, 2, none⟩ (.int .i64 T')).setCell ⟨n, 3, none⟩ (.slice a1 16 c1)).setCell ⟨n, 4, none⟩ (.int .i64 b)).setCell ⟨n, 5, none⟩ (.slice v1 4 d1)).setCell ⟨n, 6, none⟩ (.int .i64 (dn + 1))) w.heap.size #[.int .i64 a, .int .i64 b, .int .i64 c, .int .i64 d] from cs_oth (cs_oth (cs_oth (cs_oth (cs_oth (HOX.out) HNO.out) HNO.out) HNO.out) HNO.out) HNO.out)
        go_upto_region 14 with fail
        obtain ⟨wf, hwf⟩ : ∃ z, (((((wv.setCell ⟨n, 2, none⟩ (.int .i64 T')).setCell ⟨n, 3, none⟩ (.slice a1 16 c1)).setCell ⟨n, 4, none⟩ (.int .i64 b)).setCell ⟨n, 5, none⟩ (.slice v1 4 d1)).setCell ⟨n, 6, none⟩ (.int .i64 (dn + 1))) = z := ⟨_, rfl⟩
        rw [hwf] at HS HSB HOY ⊢
        clear hwf xk0 xk1 xk2 xk3 xk4 xkz xw2 xw3 xw4 xw5 xw6 yw2 yw3 yw4 yw5 yw6 xwz
        clear HF HBX HKX HOX
        have HLE := Lib.hid HS.out.le
        cases cf
        · go_wp2
          go_ret
          exact ⟨rfl, ⟨_, _, _, _, _, _, _, _, _, HS.out, HDQ.out⟩, HSB.out⟩
        · go_upto_region 15 with fail
          obtain ⟨lit, hlit⟩ : ∃ lit : (Nat → Value) → Act, lit = fun vs => { tmps := List.toArray (Value.pointer (some { block := n, off := 0 }) :: Value.agg #[Value.int IntKind.i64 a, Value.int IntKind.i64 b, Value.int IntKind.i64 c, Value.int IntKind.i64 d] :: Value.bool true :: undef :: Value.pointer (some { block := w.heap.size, off := 0 }) :: undef :: Value.bool false :: Value.bool pb :: Value.pointer (some { block := k, off := 0 }) :: Value.bool true :: Value.int IntKind.i64 0 :: Value.pointer (some { block := n, off := 0 }) :: Value.pointer (some { block := n, off := 0 }) :: Value.pointer (some { block := n, off := 0 }) :: Value.pointer (some { block := n, off := 1 }) :: Value.slice pa P.length pc :: Value.pointer (some { block := w.heap.size, off := 0 }) :: Value.int IntKind.i64 a :: Value.bool pb :: u19 :: u20 :: u21 :: u22 :: u23 :: u24 :: u25 :: u26 :: u27 :: u28 :: Value.int IntKind.i64 0 :: Value.bool false :: undef :: undef :: undef :: undef :: undef :: undef :: undef :: undef :: undef :: undef :: undef :: undef :: undef :: undef :: undef :: undef :: undef :: undef :: undef :: undef :: undef :: undef :: undef :: undef :: undef :: undef :: undef :: undef :: undef :: undef :: undef :: undef :: Value.bool true :: Value.bool false :: Value.pointer (some { block := k, off := 4 }) :: Value.int IntKind.i64 (dn + 1) :: Value.pointer (some { block := n, off := 0 }) :: Value.pointer (some { block := n, off := 0 }) :: Value.pointer (some { block := n, off := 2 }) :: Value.pointer (some { block := n, off := 6 }) :: Value.int IntKind.i64 dn :: Value.bool false :: undef :: undef :: undef :: undef :: undef :: undef :: undef :: undef :: undef :: undef :: undef :: undef :: undef :: undef :: undef :: undef :: undef :: us8 0 :: us8 1 :: us8 2 :: us8 3 :: us8 4 :: us8 5 :: us8 6 :: us8 7 :: us8 8 :: us8 9 :: us8 10 :: us8 11 :: us8 12 :: us8 13 :: us8 14 :: us8 15 :: us8 16 :: us8 17 :: us8 18 :: us8 19 :: us8 20 :: us8 21 :: us8 22 :: us8 23 :: us8 24 :: us8 25 :: us8 26 :: Value.bool false :: us12 0 :: us12 1 :: us12 2 :: us12 3 :: us12 4 :: us12 5 :: us12 6 :: us12 7 :: us12 8 :: us12 9 :: Value.pointer (some { block := n, off := 0 }) :: Value.agg #[Value.int IntKind.i64 T', Value.slice a1 16 c1, Value.int IntKind.i64 b, Value.slice v1 4 d1, Value.int IntKind.i64 (dn + 1)] :: Value.pointer (some { block := n, off := 0 }) :: Value.pointer (some { block := n, off := 2 }) :: Value.bool true :: vs 0 :: vs 1 :: vs 2 :: vs 3 :: vs 4 :: vs 5 :: vs 6 :: vs 7 :: vs 8 :: vs 9 :: []), defers := [] } := ⟨_, rfl⟩
          have HLIT := Lib.hid hlit
          clear hlit
          obtain ⟨val, hval⟩ : ∃ val : List Value, val = [.pointer (some ⟨n, 0, none⟩), .pointer (some ⟨n, 0, none⟩), .pointer (some ⟨n, 0, none⟩), .pointer (some ⟨n, 0, none⟩), .agg #[.int .i64 nx, .slice pa P.length pc], .pointer (some ⟨w.heap.size, 0, none⟩), .int .i64 a, undef, .pointer (some ⟨n, 0, none⟩), .pointer (some ⟨n, 0, none⟩), undef] := ⟨_, rfl⟩
          have E0 := Lib.hid (show val.getD 0 undef = .pointer (some ⟨n, 0, none⟩) by rw [hval]; rfl)
          have E1 := Lib.hid (show val.getD 1 undef = .pointer (some ⟨n, 0, none⟩) by rw [hval]; rfl)
          have E2 := Lib.hid (show val.getD 2 undef = .pointer (some ⟨n, 0, none⟩) by rw [hval]; rfl)
          have E3 := Lib.hid (show val.getD 3 undef = .pointer (some ⟨n, 0, none⟩) by rw [hval]; rfl)
          have E4 := Lib.hid (show val.getD 4 undef = .agg #[.int .i64 nx, .slice pa P.length pc] by rw [hval]; rfl)
          have E5 := Lib.hid (show val.getD 5 undef = .pointer (some ⟨w.heap.size, 0, none⟩) by rw [hval]; rfl)
          have E6 := Lib.hid (show val.getD 6 undef = .int .i64 a by rw [hval]; rfl)
          have E8 := Lib.hid (show val.getD 8 undef = .pointer (some ⟨n, 0, none⟩) by rw [hval]; rfl)
          have E9 := Lib.hid (show val.getD 9 undef = .pointer (some ⟨n, 0, none⟩) by rw [hval]; rfl)
          clear hval
          obtain ⟨G, hG0⟩ : ∃ G : Bool → Nat → Value → World → Prop, G = (fun bq iq vq ww => (iq = 7 → Qsd wf.heap.size nx P' bq vq ww) ∧ (iq ≠ 7 → iq ≠ 10 → vq = val.getD iq undef)) := ⟨_, rfl⟩
          have HG := Lib.hid hG0
          clear hG0
          refine region_inv (NS lit 10 (fun p q => (p == 10 && q == 4) || (p == 10 && q == 6) || (p == 10 && q == 7)) G fun bq wv => (bq = false → Below wf.heap.size wf wv) ∧ (bq = true → (∃ (pc9 : Nat) (pa9 : Option Addr), WdA base n pa9 a1 v1 aa da9 pc9 c1 d1 ac dc9 nx P' T' L' b V' (dn + 1) A D' wv) ∧ FB base n da wf wv)) (by kernel_rfl) (by decide +kernel) ?_ ?_ ?_
          · exact NS.start (fun i => ([undef, undef, undef, undef, undef, undef, undef, undef, undef, undef, undef] : List Value).getD i undef) (by rw [HLIT.out]; rfl) ⟨fun _ => below_drew _ _, fun h => (by cases h)⟩
          · refine ⟨?_, ?_, ?_, ?_, ?_, ?_, ?_, ?_, ?_, ?_, ?_, trivial⟩
            · intro bf ac wv hfb haf hJ K' hK
              obtain ⟨vs, rfl, ja, hB, j4⟩ := hJ
              replace hK := Lib.hid hK
              rw [HG.out] at j4
              replace j4 := Lib.hid (And.intro ja j4)
              replace hB := Lib.hid hB
              clear ja haf
              rw [HLIT.out]
              go_simp
              exact hK.out _ _ (NS.next (vs := vs) 0 (by omega) (fun q h => absurd h (by simp)) (x := .pointer (some ⟨n, 0, none⟩)) (by rw [HLIT.out]; rfl) (by rw [HG.out]; exact j4.out) hB.out (by rw [HG.out]; exact fun _ _ h => h) (by rw [HG.out]; exact ⟨fun h => absurd h (by decide), fun _ _ => E0.out.symm⟩))
            · intro bf ac wv hfb haf hJ K' hK
              obtain ⟨vs, rfl, ja, hB, j4⟩ := hJ
              replace hK := Lib.hid hK
              rw [HG.out] at j4
              replace j4 := Lib.hid (And.intro ja j4)
              replace hB := Lib.hid hB
              clear ja haf
              rw [HLIT.out]
              go_simp
              exact hK.out _ _ (NS.next (vs := vs) 1 (by omega) (fun q h => absurd h (by simp)) (x := .pointer (some ⟨n, 0, none⟩)) (by rw [HLIT.out]; rfl) (by rw [HG.out]; exact j4.out) hB.out (by rw [HG.out]; exact fun _ _ h => h) (by rw [HG.out]; exact ⟨fun h => absurd h (by decide), fun _ _ => E1.out.symm⟩))
            · intro bf ac wv hfb haf hJ K' hK
              obtain ⟨vs, rfl, ja, hB, j4⟩ := hJ
              replace hK := Lib.hid hK
              simp [Region.binds] at haf
              rw [HG.out] at j4
              have e1 := ((j4 1 (by simp [haf])).2 (by decide) (by decide)).trans E1.out
              replace j4 := Lib.hid (And.intro ja j4)
              replace hB := Lib.hid hB
              clear ja haf
              rw [HLIT.out]
              go_simp
              exact hK.out _ _ (NS.next (vs := vs) 2 (by omega) (fun q h => absurd h (by simp)) (x := .pointer (some ⟨n, 0, none⟩)) (by rw [HLIT.out]; simp only [upv, e1, Nat.reduceBEq, cond_true, cond_false]) (by rw [HG.out]; exact j4.out) hB.out (by rw [HG.out]; exact fun _ _ h => h) (by rw [HG.out]; exact ⟨fun h => absurd h (by decide), fun _ _ => E2.out.symm⟩))
            · intro bf ac wv hfb haf hJ K' hK
              obtain ⟨vs, rfl, ja, hB, j4⟩ := hJ
              replace hK := Lib.hid hK
              simp [Region.binds] at haf
              rw [HG.out] at j4
              have e2 := ((j4 2 (by simp [haf])).2 (by decide) (by decide)).trans E2.out
              replace j4 := Lib.hid (And.intro ja j4)
              replace hB := Lib.hid hB
              clear ja haf
              rw [HLIT.out]
              go_simp
              exact hK.out _ _ (NS.next (vs := vs) 3 (by omega) (fun q h => absurd h (by simp)) (x := .pointer (some ⟨n, 0, none⟩)) (by rw [HLIT.out]; simp only [upv, e2, Nat.reduceBEq, cond_true, cond_false]) (by rw [HG.out]; exact j4.out) hB.out (by rw [HG.out]; exact fun _ _ h => h) (by rw [HG.out]; exact ⟨fun h => absurd h (by decide), fun _ _ => E3.out.symm⟩))
            · intro bf ac wv hfb haf hJ K' hK
              obtain ⟨vs, rfl, ja, hB, j4⟩ := hJ
              replace hK := Lib.hid hK
              simp [Region.binds] at haf
              rw [HG.out] at j4
              have e3 := ((j4 3 (by simp [haf])).2 (by decide) (by decide)).trans E3.out
              have hd : bf 10 = false := by
                cases h : bf 10
                · rfl
                · exact absurd ((ja 10 4 rfl h).symm.trans hfb) (by simp)
              have hM := Lib.hid (hB.1 hd)
              replace j4 := Lib.hid (And.intro ja j4)
              replace hB := Lib.hid hB
              clear ja haf
              have xx0 := (HS.out.step hM.out).cs.c 0 rfl
              have xx1 := (HS.out.step hM.out).cs.c 1 rfl
              have xxz := (HS.out.step hM.out).cs.2.2
              rw [HLIT.out]
              go_simp
              exact hK.out _ _ (NS.next (vs := vs) 4 (by omega) (fun q h => absurd h (by simp)) (x := .agg #[.int .i64 nx, .slice pa P.length pc]) (by rw [HLIT.out]; simp only [upv, e3, Nat.reduceBEq, cond_true, cond_false]) (by rw [HG.out]; exact j4.out) hB.out (by rw [HG.out]; exact fun _ _ h => h) (by rw [HG.out]; exact ⟨fun h => absurd h (by decide), fun _ _ => E4.out.symm⟩))
            · intro bf ac wv hfb haf hJ K' hK
              obtain ⟨vs, rfl, ja, hB, j4⟩ := hJ
              replace hK := Lib.hid hK
              rw [HG.out] at j4
              replace j4 := Lib.hid (And.intro ja j4)
              replace hB := Lib.hid hB
              clear ja haf
              rw [HLIT.out]
              go_simp
              exact hK.out _ _ (NS.next (vs := vs) 5 (by omega) (fun q h => absurd h (by simp)) (x := .pointer (some ⟨w.heap.size, 0, none⟩)) (by rw [HLIT.out]; rfl) (by rw [HG.out]; exact j4.out) hB.out (by rw [HG.out]; exact fun _ _ h => h) (by rw [HG.out]; exact ⟨fun h => absurd h (by decide), fun _ _ => E5.out.symm⟩))
            · intro bf ac wv hfb haf hJ K' hK
              obtain ⟨vs, rfl, ja, hB, j4⟩ := hJ
              replace hK := Lib.hid hK
              simp [Region.binds] at haf
              rw [HG.out] at j4
              have e5 := ((j4 5 (by simp [haf])).2 (by decide) (by decide)).trans E5.out
              have hd : bf 10 = false := by
                cases h : bf 10
                · rfl
                · exact absurd ((ja 10 6 rfl h).symm.trans hfb) (by simp)
              have hM := Lib.hid (hB.1 hd)
              replace j4 := Lib.hid (And.intro ja j4)
              replace hB := Lib.hid hB
              clear ja haf
              have xp0 := (HOY.out.step hM.out).c 0 rfl
              have xpz := (HOY.out.step hM.out).2.2
              rw [HLIT.out]
              go_simp
              exact hK.out _ _ (NS.next (vs := vs) 6 (by omega) (fun q h => absurd h (by simp)) (x := .int .i64 a) (by rw [HLIT.out]; simp only [upv, e5, Nat.reduceBEq, cond_true, cond_false]) (by rw [HG.out]; exact j4.out) hB.out (by rw [HG.out]; exact fun _ _ h => h) (by rw [HG.out]; exact ⟨fun h => absurd h (by decide), fun _ _ => E6.out.symm⟩))
            · intro bf ac wv hfb haf hJ K' hK
              obtain ⟨vs, rfl, ja, hB, j4⟩ := hJ
              replace hK := Lib.hid hK
              simp [Region.binds] at haf
              rw [HG.out] at j4
              have e4 := ((j4 4 (by simp [haf])).2 (by decide) (by decide)).trans E4.out
              have e6 := ((j4 6 (by simp [haf])).2 (by decide) (by decide)).trans E6.out
              have hd : bf 10 = false := by
                cases h : bf 10
                · rfl
                · exact absurd ((ja 10 7 rfl h).symm.trans hfb) (by simp)
              have hM := Lib.hid (hB.1 hd)
              replace j4 := Lib.hid (And.intro ja j4)
              replace hB := Lib.hid hB
              clear ja haf
              rw [HLIT.out]
              go_simp
              go_at_call 17
              refine (confirm_to_f HCF.out ⟨fun _ => HSN.out, fun _ => rfl⟩ pa pc _ (HS.out.step hM.out).pp HPL.out).mono ?_
              rintro e w4 ⟨uc, ua, rfl, hp4, b4, hf4⟩
              exact hK.out _ _ (NS.next (vs := vs) 7 (by omega) (fun q h => absurd h (by simp)) (x := (.agg #[.int .i64 nx, .slice ua P'.length uc])) (by rw [HLIT.out]; simp only [upv, e4, e6, Nat.reduceBEq, cond_true, cond_false]) (by rw [HG.out]; exact j4.out) ⟨fun _ => keep2 b4 hM.out, fun e => absurd (e.symm.trans hd) (by simp)⟩ (by rw [HG.out]; exact fun k hbk h => ⟨fun q => (h.1 q).step b4, h.2⟩) (by rw [HG.out]; exact ⟨fun _ => ⟨uc, ua, rfl, fun _ => ⟨hp4, fun g o e => Nat.le_trans hM.out.size (hf4 g o e)⟩⟩, fun h7 => absurd rfl h7⟩))
            · intro bf ac wv hfb haf hJ K' hK
              obtain ⟨vs, rfl, ja, hB, j4⟩ := hJ
              replace hK := Lib.hid hK
              simp [Region.binds] at haf
              rw [HG.out] at j4
              have e0 := ((j4 0 (by simp [haf])).2 (by decide) (by decide)).trans E0.out
              replace j4 := Lib.hid (And.intro ja j4)
              replace hB := Lib.hid hB
              clear ja haf
              rw [HLIT.out]
              go_simp
              exact hK.out _ _ (NS.next (vs := vs) 8 (by omega) (fun q h => absurd h (by simp)) (x := .pointer (some ⟨n, 0, none⟩)) (by rw [HLIT.out]; simp only [upv, e0, Nat.reduceBEq, cond_true, cond_false]) (by rw [HG.out]; exact j4.out) hB.out (by rw [HG.out]; exact fun _ _ h => h) (by rw [HG.out]; exact ⟨fun h => absurd h (by decide), fun _ _ => E8.out.symm⟩))
            · intro bf ac wv hfb haf hJ K' hK
              obtain ⟨vs, rfl, ja, hB, j4⟩ := hJ
              replace hK := Lib.hid hK
              simp [Region.binds] at haf
              rw [HG.out] at j4
              have e8 := ((j4 8 (by simp [haf])).2 (by decide) (by decide)).trans E8.out
              replace j4 := Lib.hid (And.intro ja j4)
              replace hB := Lib.hid hB
              clear ja haf
              rw [HLIT.out]
              go_simp
              exact hK.out _ _ (NS.next (vs := vs) 9 (by omega) (fun q h => absurd h (by simp)) (x := .pointer (some ⟨n, 0, none⟩)) (by rw [HLIT.out]; simp only [upv, e8, Nat.reduceBEq, cond_true, cond_false]) (by rw [HG.out]; exact j4.out) hB.out (by rw [HG.out]; exact fun _ _ h => h) (by rw [HG.out]; exact ⟨fun h => absurd h (by decide), fun _ _ => E9.out.symm⟩))
            · intro bf ac wv hfb haf hJ K' hK
              obtain ⟨vs, rfl, ja, hB, j4⟩ := hJ
              replace hK := Lib.hid hK
              simp [Region.binds] at haf
              rw [HG.out] at j4
              have e7 := (j4 7 (by simp [haf])).1 rfl
              have e9 := ((j4 9 (by simp [haf])).2 (by decide) (by decide)).trans E9.out
              rw [hfb] at j4 hB
              try rw [hfb] at e7
              have HA := Lib.hid (show ∀ q, (fun p q => (p == 10 && q == 4) || (p == 10 && q == 6) || (p == 10 && q == 7)) 10 q = true → bf q = true from fun q hi => by
                obtain rfl | rfl | rfl : q = 4 ∨ q = 6 ∨ q = 7 := by simpa [or_assoc] using hi
                all_goals simp [haf])
              have hM := Lib.hid (hB.1 rfl)
              replace j4 := Lib.hid j4
              have HE := Lib.hid (And.intro ja HA.out)
              clear ja haf hB HA
              obtain ⟨uc, ua, e7, hp⟩ := e7
              obtain ⟨hp, hf⟩ := hp rfl
              have hWv := HS.out.step hM.out
              have HWv := Lib.hid hWv
              have x0 := hWv.cs.c 0 rfl
              have x1 := hWv.cs.c 1 rfl
              have y0 := hWv.cs.f 0 (by simp)
              have y1 := hWv.cs.f 1 (by simp)
              have xz := hWv.cs.2.2
              clear hWv
              replace hp := Lib.hid hp
              replace hf := Lib.hid hf
              rw [HLIT.out]
              go_simp
              have h9 := HWv.out.sets (nx' := nx) hp.out (fun _ => nb_fresh hf.out HS.out.cs.2.2) (fun _ => nb2_fresh hf.out (row_ltN HS.out.al (Nat.le_refl _))) (fun _ => nb2_fresh hf.out (row_ltN HS.out.dl (Nat.le_refl _)))
              exact hK.out _ _ (NS.put (vs := vs) (by rw [HLIT.out]; simp only [e7, e9]) HE.out ⟨fun e => (by cases e), fun _ => ⟨⟨_, _, h9⟩, (((FB.refl base n da wf).step hM.out HLE.out).setN HBN.out 0 _).setN HBN.out 1 _⟩⟩ (fun j hj hb => by
                rw [HG.out]
                have q := j4.out j hb
                exact ⟨fun h => (q.1 h).put _, q.2⟩) (fun v => by rw [HG.out]; exact ⟨fun h => absurd h (by decide), fun h7 h10 => absurd rfl h10⟩))
          · intro bf ac wv hall hJ
            obtain ⟨vs, rfl, -, hB, j4⟩ := hJ
            rw [HG.out] at j4
            rw [hall 10 (by decide)] at hB j4
            have hM := Lib.hid (hB.2 rfl)
            clear hB
            obtain ⟨⟨pc9, pa9, h9⟩, hb9⟩ := hM.out
            replace h9 := Lib.hid h9
            replace hb9 := Lib.hid hb9
            clear hM j4 hall
            rw [HLIT.out]
            dsimp only
            go_wp2
            go_ret
            exact ⟨rfl, ⟨_, _, _, _, _, _, _, _, _, h9.out, HDQ.out⟩, HSB.out.tr hb9.out⟩
end Go.Proofs.Ytkamkkjijjkfdaa
