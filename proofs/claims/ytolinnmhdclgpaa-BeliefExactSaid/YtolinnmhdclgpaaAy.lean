import Derived.Test.YtolinnmhdclgpaaAx
import Derived.Deep.CutRange
import Derived.Test.YtolinnmhdclgpaaIv
namespace Go.Proofs.Ytolinnmhdclgpaa
open Go.RowKit

set_option maxRecDepth 100000 in
set_option maxHeartbeats 8000000 in
theorem head_any (w : World) : Calls Try.prog 10 #[] w fun e w' => e = .returned (.bool true) ∧ Below w.heap.size w w' := by
  have H0 := Lib.hid (Below.refl w.heap.size w)
  go_enter Try.func10, Try.ntmps10
  go_wp2_with fail
  refine (known_any 0 _).mono ?_
  rintro e u1 ⟨ua0, uc0, fa0, fc0, rfl, b1, hr0⟩
  have H1 := Lib.hid (keep2 b1 H0.out)
  clear H0
  clear b1
  have H2 := Lib.hid (hr0)
  clear hr0
  go_wp2_with fail
  refine (order_any 1 2 _).mono ?_
  rintro e u2 ⟨rfl, b2⟩
  have H3 := Lib.hid (H2.out.step b2)
  clear H2
  have H4 := Lib.hid (keep2 b2 H1.out)
  clear H1
  clear b2
  go_wp2_with fail
  refine (head_a _ _ _ _ _ H3.out).mono ?_
  rintro e u3 ⟨uaA, ucA, faA, fcA, rfl, b3, hrA⟩
  have H5 := Lib.hid (H3.out.step b3)
  clear H3
  have H6 := Lib.hid (keep2 b3 H4.out)
  clear H4
  clear b3
  have H7 := Lib.hid (hrA)
  clear hrA
  have H8 := Lib.hid (H5.out.step (al u3 (.cells #[.slice uaA vA.length ucA, .slice faA mA.length fcA] 25)))
  clear H5
  have H9 := Lib.hid (H7.out.step (al u3 (.cells #[.slice uaA vA.length ucA, .slice faA mA.length fcA] 25)))
  clear H7
  have H10 := Lib.hid (keep2 (al u3 (.cells #[.slice uaA vA.length ucA, .slice faA mA.length fcA] 25)) H6.out)
  clear H6
  have H11 := Lib.hid (Cs.new u3 (u3.heap.size) #[.slice uaA vA.length ucA, .slice faA mA.length fcA] 25 (by simp))
  clear H8
  go_upto_region 2 with fail
  obtain ⟨wq, hwq⟩ : ∃ z, (u3.alloc (.cells #[.slice uaA vA.length ucA, .slice faA mA.length fcA] 25)) = z := ⟨_, rfl⟩
  rw [hwq] at H9 H11 H10 ⊢
  clear hwq
  go_cut [3, 4] from 28 to 33 (fun p1 p2 wc => ∃ k : Nat, p1 = .pointer (some ⟨k, 0, none⟩) ∧ p2 = .int .i64 0 ∧ wq.heap.size ≤ k ∧ BB vB mB k wc ∧ Below wq.heap.size wq wc)
  case first =>
    obtain ⟨lit, hlit⟩ : ∃ lit : (Nat → Value) → Act, lit = fun vs => { tmps := List.toArray (Value.bool false :: Value.pointer (some { block := u3.heap.size, off := 0 }) :: Value.int IntKind.i64 0 :: vs 6 :: vs 8 :: undef :: undef :: undef :: undef :: undef :: undef :: undef :: undef :: undef :: undef :: undef :: undef :: undef :: undef :: undef :: undef :: undef :: Value.tuple #[Value.agg #[Value.slice uaA vA.length ucA, Value.slice faA mA.length fcA], Value.int IntKind.i64 0] :: Value.agg #[Value.slice ua0 (kV 0).length uc0, Value.slice fa0 (kM 0).length fc0] :: Value.agg #[Value.int IntKind.i64 1, Value.int IntKind.i64 0, Value.int IntKind.i64 0, Value.int IntKind.i64 2] :: Value.tuple #[Value.agg #[Value.slice uaA vA.length ucA, Value.slice faA mA.length fcA], Value.int IntKind.i64 0] :: Value.agg #[Value.slice uaA vA.length ucA, Value.slice faA mA.length fcA] :: Value.int IntKind.i64 0 :: vs 3 :: vs 0 :: vs 1 :: vs 2 :: vs 4 :: vs 5 :: undef :: undef :: undef :: undef :: undef :: undef :: undef :: undef :: undef :: undef :: undef :: undef :: undef :: undef :: undef :: undef :: undef :: undef :: undef :: undef :: undef :: undef :: undef :: undef :: undef :: undef :: undef :: undef :: undef :: undef :: undef :: undef :: undef :: undef :: undef :: undef :: undef :: undef :: undef :: undef :: undef :: undef :: undef :: undef :: undef :: undef :: undef :: undef :: undef :: undef :: undef :: undef :: undef :: undef :: undef :: undef :: undef :: undef :: undef :: undef :: undef :: undef :: undef :: undef :: undef :: undef :: undef :: undef :: undef :: undef :: undef :: undef :: undef :: undef :: undef :: undef :: undef :: undef :: undef :: undef :: undef :: undef :: undef :: undef :: undef :: undef :: undef :: undef :: undef :: undef :: undef :: undef :: undef :: undef :: undef :: undef :: undef :: undef :: undef :: undef :: undef :: undef :: undef :: undef :: undef :: undef :: undef :: undef :: undef :: undef :: undef :: undef :: undef :: undef :: undef :: undef :: undef :: undef :: undef :: undef :: undef :: undef :: undef :: undef :: undef :: undef :: undef :: undef :: undef :: undef :: undef :: undef :: undef :: undef :: undef :: undef :: undef :: undef :: undef :: undef :: []), defers := [] } := ⟨_, rfl⟩
    have HLIT := Lib.hid hlit
    clear hlit
    obtain ⟨val, hval⟩ : ∃ val : List Value, val = [.agg #[.slice uaA vA.length ucA, .slice faA mA.length fcA], .agg #[.int .i64 2, .int .i64 0, .int .i64 0, .int .i64 3], undef, undef, undef, .int .i64 0, undef, undef, .int .i64 0] := ⟨_, rfl⟩
    have E0 := Lib.hid (show val.getD 0 undef = .agg #[.slice uaA vA.length ucA, .slice faA mA.length fcA] by rw [hval]; rfl)
    have E1 := Lib.hid (show val.getD 1 undef = .agg #[.int .i64 2, .int .i64 0, .int .i64 0, .int .i64 3] by rw [hval]; rfl)
    have E5 := Lib.hid (show val.getD 5 undef = .int .i64 0 by rw [hval]; rfl)
    have E8 := Lib.hid (show val.getD 8 undef = .int .i64 0 by rw [hval]; rfl)
    clear hval
    obtain ⟨G, hG0⟩ : ∃ G : Bool → Nat → Value → World → Prop, G = (fun bq iq vq ww => (iq = 2 → Qt vB mB 0 bq vq ww) ∧ (iq = 3 → Qt vB mB 0 bq vq ww) ∧ (iq = 4 → Qa vB mB bq vq ww) ∧ (iq = 6 → Qk wq.heap.size vB mB bq vq ww) ∧ (iq ≠ 2 → iq ≠ 3 → iq ≠ 4 → iq ≠ 6 → iq ≠ 7 → vq = val.getD iq undef)) := ⟨_, rfl⟩
    have HG := Lib.hid hG0
    clear hG0
    refine region_inv (NS lit 7 (fun p q => (p == 7 && q == 0) || (p == 7 && q == 1) || (p == 7 && q == 2) || (p == 7 && q == 3) || (p == 7 && q == 4) || (p == 7 && q == 6)) G fun bq wv => (bq = false → Below wq.heap.size wq wv) ∧ (bq = true → Below wq.heap.size wq wv)) (by kernel_rfl) (by decide +kernel) ?_ ?_ ?_
    · exact NS.start (fun i => ([undef, undef, undef, undef, undef, undef, undef, undef, undef] : List Value).getD i undef) (by rw [HLIT.out]; rfl) ⟨fun _ => below_drew _ _, fun h => (by cases h)⟩
    · refine ⟨?_, ?_, ?_, ?_, ?_, ?_, ?_, ?_, ?_, trivial⟩
      · intro bf ac wv hfb haf hJ K' hK
        obtain ⟨vs, rfl, ja, hB, j4⟩ := hJ
        replace hK := Lib.hid hK
        rw [HG.out] at j4
        have hd : bf 7 = false := by
          cases h : bf 7
          · rfl
          · exact absurd ((ja 7 0 rfl h).symm.trans hfb) (by simp)
        have hM := Lib.hid (hB.1 hd)
        replace j4 := Lib.hid (And.intro ja j4)
        replace hB := Lib.hid hB
        clear ja haf
        have xx := H11.out.step hM.out
        have xx0 := xx.c 0 rfl
        have xx1 := xx.c 1 rfl
        have xxz := xx.2.2
        clear xx
        rw [HLIT.out]
        go_simp
        exact hK.out _ _ (NS.next (vs := vs) 0 (by omega) (fun q h => absurd h (by simp)) (x := .agg #[.slice uaA vA.length ucA, .slice faA mA.length fcA]) (by rw [HLIT.out]; rfl) (by rw [HG.out]; exact j4.out) hB.out (by rw [HG.out]; exact fun _ _ h => h) (by rw [HG.out]; exact ⟨fun h => absurd h (by decide), fun h => absurd h (by decide), fun h => absurd h (by decide), fun h => absurd h (by decide), fun _ _ _ _ _ => E0.out.symm⟩))
      · intro bf ac wv hfb haf hJ K' hK
        obtain ⟨vs, rfl, ja, hB, j4⟩ := hJ
        replace hK := Lib.hid hK
        rw [HG.out] at j4
        have hd : bf 7 = false := by
          cases h : bf 7
          · rfl
          · exact absurd ((ja 7 1 rfl h).symm.trans hfb) (by simp)
        have hM := Lib.hid (hB.1 hd)
        replace j4 := Lib.hid (And.intro ja j4)
        replace hB := Lib.hid hB
        clear ja haf
        rw [HLIT.out]
        go_simp
        go_at_call 36
        refine (order_any 2 3 _).mono ?_
        rintro e w4 ⟨rfl, b4⟩
        exact hK.out _ _ (NS.next (vs := vs) 1 (by omega) (fun q h => absurd h (by simp)) (x := .agg #[.int .i64 2, .int .i64 0, .int .i64 0, .int .i64 3]) (by rw [HLIT.out]; rfl) (by rw [HG.out]; exact j4.out) ⟨fun _ => keep2 b4 hM.out, fun e => absurd (e.symm.trans hd) (by simp)⟩ (by rw [HG.out]; exact fun k hbk h => ⟨fun q => (h.1 q).step b4, fun q => (h.2.1 q).step b4, fun q => (h.2.2.1 q).step b4, fun q => (h.2.2.2.1 q).step b4, h.2.2.2.2⟩) (by rw [HG.out]; exact ⟨fun h => absurd h (by decide), fun h => absurd h (by decide), fun h => absurd h (by decide), fun h => absurd h (by decide), fun _ _ _ _ _ => E1.out.symm⟩))
      · intro bf ac wv hfb haf hJ K' hK
        obtain ⟨vs, rfl, ja, hB, j4⟩ := hJ
        replace hK := Lib.hid hK
        simp [Region.binds] at haf
        rw [HG.out] at j4
        have e0 := ((j4 0 (by simp [haf])).2.2.2.2 (by decide) (by decide) (by decide) (by decide) (by decide)).trans E0.out
        have e1 := ((j4 1 (by simp [haf])).2.2.2.2 (by decide) (by decide) (by decide) (by decide) (by decide)).trans E1.out
        have hd : bf 7 = false := by
          cases h : bf 7
          · rfl
          · exact absurd ((ja 7 2 rfl h).symm.trans hfb) (by simp)
        have hM := Lib.hid (hB.1 hd)
        replace j4 := Lib.hid (And.intro ja j4)
        replace hB := Lib.hid hB
        clear ja haf
        rw [HLIT.out]
        go_simp
        go_at_call 11
        refine (head_b _ _ _ _ _ (H9.out.step hM.out)).mono ?_
        rintro e w4 ⟨uar, ucr, far, fcr, rfl, b4, hr⟩
        exact hK.out _ _ (NS.next (vs := vs) 2 (by omega) (fun q h => absurd h (by simp)) (x := (.tuple #[.agg #[.slice uar vB.length ucr, .slice far mB.length fcr], .int .i64 0])) (by rw [HLIT.out]; simp only [upv, e0, e1, Nat.reduceBEq, cond_true, cond_false]) (by rw [HG.out]; exact j4.out) ⟨fun _ => keep2 b4 hM.out, fun e => absurd (e.symm.trans hd) (by simp)⟩ (by rw [HG.out]; exact fun k hbk h => ⟨fun q => (h.1 q).step b4, fun q => (h.2.1 q).step b4, fun q => (h.2.2.1 q).step b4, fun q => (h.2.2.2.1 q).step b4, h.2.2.2.2⟩) (by rw [HG.out]; exact ⟨fun _ => ⟨uar, ucr, far, fcr, rfl, fun _ => hr⟩, fun h => absurd h (by decide), fun h => absurd h (by decide), fun h => absurd h (by decide), fun h2 => absurd rfl h2⟩))
      · intro bf ac wv hfb haf hJ K' hK
        obtain ⟨vs, rfl, ja, hB, j4⟩ := hJ
        replace hK := Lib.hid hK
        simp [Region.binds] at haf
        rw [HG.out] at j4
        have e2 := (j4 2 (by simp [haf])).1 rfl
        replace j4 := Lib.hid (And.intro ja j4)
        replace hB := Lib.hid hB
        clear ja haf
        obtain ⟨uar, ucr, far, fcr, e2, hr⟩ := e2
        rw [HLIT.out]
        go_simp
        exact hK.out _ _ (NS.next (vs := vs) 3 (by omega) (fun q h => absurd h (by simp)) (x := (.tuple #[.agg #[.slice uar vB.length ucr, .slice far mB.length fcr], .int .i64 0])) (by rw [HLIT.out]; simp only [upv, e2, Nat.reduceBEq, cond_true, cond_false]) (by rw [HG.out]; exact j4.out) hB.out (by rw [HG.out]; exact fun _ _ h => h) (by rw [HG.out]; exact ⟨fun h => absurd h (by decide), fun _ => ⟨uar, ucr, far, fcr, rfl, hr⟩, fun h => absurd h (by decide), fun h => absurd h (by decide), fun h2 h3 => absurd rfl h3⟩))
      · intro bf ac wv hfb haf hJ K' hK
        obtain ⟨vs, rfl, ja, hB, j4⟩ := hJ
        replace hK := Lib.hid hK
        simp [Region.binds] at haf
        rw [HG.out] at j4
        have e3 := (j4 3 (by simp [haf])).2.1 rfl
        replace j4 := Lib.hid (And.intro ja j4)
        replace hB := Lib.hid hB
        clear ja haf
        obtain ⟨uar, ucr, far, fcr, e3, hr⟩ := e3
        rw [HLIT.out]
        go_simp
        exact hK.out _ _ (NS.next (vs := vs) 4 (by omega) (fun q h => absurd h (by simp)) (x := (.agg #[.slice uar vB.length ucr, .slice far mB.length fcr])) (by rw [HLIT.out]; simp only [upv, e3, Nat.reduceBEq, cond_true, cond_false]) (by rw [HG.out]; exact j4.out) hB.out (by rw [HG.out]; exact fun _ _ h => h) (by rw [HG.out]; exact ⟨fun h => absurd h (by decide), fun h => absurd h (by decide), fun _ => ⟨uar, ucr, far, fcr, rfl, hr⟩, fun h => absurd h (by decide), fun h2 h3 h4 => absurd rfl h4⟩))
      · intro bf ac wv hfb haf hJ K' hK
        obtain ⟨vs, rfl, ja, hB, j4⟩ := hJ
        replace hK := Lib.hid hK
        simp [Region.binds] at haf
        rw [HG.out] at j4
        have e3 := (j4 3 (by simp [haf])).2.1 rfl
        replace j4 := Lib.hid (And.intro ja j4)
        replace hB := Lib.hid hB
        clear ja haf
        obtain ⟨uar, ucr, far, fcr, e3, hr⟩ := e3
        rw [HLIT.out]
        go_simp
        exact hK.out _ _ (NS.next (vs := vs) 5 (by omega) (fun q h => absurd h (by simp)) (x := .int .i64 0) (by rw [HLIT.out]; simp only [upv, e3, Nat.reduceBEq, cond_true, cond_false]) (by rw [HG.out]; exact j4.out) hB.out (by rw [HG.out]; exact fun _ _ h => h) (by rw [HG.out]; exact ⟨fun h => absurd h (by decide), fun h => absurd h (by decide), fun h => absurd h (by decide), fun h => absurd h (by decide), fun _ _ _ _ _ => E5.out.symm⟩))
      · intro bf ac wv hfb haf hJ K' hK
        obtain ⟨vs, rfl, ja, hB, j4⟩ := hJ
        replace hK := Lib.hid hK
        rw [HG.out] at j4
        have hd : bf 7 = false := by
          cases h : bf 7
          · rfl
          · exact absurd ((ja 7 6 rfl h).symm.trans hfb) (by simp)
        have hM := Lib.hid (hB.1 hd)
        replace j4 := Lib.hid (And.intro ja j4)
        replace hB := Lib.hid hB
        clear ja haf
        rw [HLIT.out]
        go_simp
        have b4 := al wv (.cells ZB 25)
        exact hK.out _ _ (NS.next (vs := vs) 6 (by omega) (fun q h => absurd h (by simp)) (x := (.pointer (some ⟨wv.heap.size, 0, none⟩))) (by rw [HLIT.out]; rfl) (by rw [HG.out]; exact j4.out) ⟨fun _ => keep2 b4 hM.out, fun e => absurd (e.symm.trans hd) (by simp)⟩ (by rw [HG.out]; exact fun k hbk h => ⟨fun q => (h.1 q).step b4, fun q => (h.2.1 q).step b4, fun q => (h.2.2.1 q).step b4, fun q => (h.2.2.2.1 q).step b4, h.2.2.2.2⟩) (by rw [HG.out]; exact ⟨fun h => absurd h (by decide), fun h => absurd h (by decide), fun h => absurd h (by decide), fun _ => ⟨wv.heap.size, rfl, hM.out.size, fun _ => BoxN.new wv ZB 25, fun e => absurd (e.symm.trans hd) (by simp)⟩, fun h2 h3 h4 h6 => absurd rfl h6⟩))
      · intro bf ac wv hfb haf hJ K' hK
        obtain ⟨vs, rfl, ja, hB, j4⟩ := hJ
        replace hK := Lib.hid hK
        simp [Region.binds] at haf
        rw [HG.out] at j4
        have e4 := (j4 4 (by simp [haf])).2.2.1 rfl
        have e6 := (j4 6 (by simp [haf])).2.2.2.1 rfl
        rw [hfb] at j4 hB
        try rw [hfb] at e4
        try rw [hfb] at e6
        have HA := Lib.hid (show ∀ q, (fun p q => (p == 7 && q == 0) || (p == 7 && q == 1) || (p == 7 && q == 2) || (p == 7 && q == 3) || (p == 7 && q == 4) || (p == 7 && q == 6)) 7 q = true → bf q = true from fun q hi => by
          obtain rfl | rfl | rfl | rfl | rfl | rfl : q = 0 ∨ q = 1 ∨ q = 2 ∨ q = 3 ∨ q = 4 ∨ q = 6 := by simpa [or_assoc] using hi
          all_goals simp [haf])
        have hM := Lib.hid (hB.1 rfl)
        replace j4 := Lib.hid j4
        have HE := Lib.hid (And.intro ja HA.out)
        clear ja haf hB HA
        obtain ⟨k, e6, hk, hz, -⟩ := e6
        replace hz := hz rfl
        obtain ⟨uar, ucr, far, fcr, e4, hr⟩ := e4
        replace hr := Lib.hid (hr rfl)
        replace hk := Lib.hid hk
        have HZ := Lib.hid hz
        have HZC := Lib.hid (cs_of_box hz)
        have x0 := HZC.out.c 0 rfl
        have y0 := HZC.out.f 0 (by simp [ZB])
        have x1 := HZC.out.c 1 rfl
        have y1 := HZC.out.f 1 (by simp [ZB])
        have xz := HZC.out.2.2
        clear hz
        rw [HLIT.out]
        go_simp
        have p1 := BB.of_put (bb_zero HZ.out) hr.out
        have p3 : Below wq.heap.size wv (putB wv k (.slice uar vB.length ucr) (.slice far mB.length fcr)) := putB_below _ _ hk.out
        exact hK.out _ _ (NS.put (vs := vs) (w' := putB wv k (.slice uar vB.length ucr) (.slice far mB.length fcr)) (by rw [HLIT.out]; simp only [e6, e4]) HE.out ⟨fun e => (by cases e), fun _ => hM.out.trans p3⟩ (fun j hj hb => by
          rw [HG.out]
          have q := j4.out j hb
          exact ⟨fun h => (q.1 h).put _, fun h => (q.2.1 h).put _, fun h => (q.2.2.1 h).put _, fun h => by
            subst h
            exact ⟨k, e6, hk.out, fun e => (by cases e), fun _ => p1⟩, q.2.2.2.2⟩) (fun v => by rw [HG.out]; exact ⟨fun h => absurd h (by decide), fun h => absurd h (by decide), fun h => absurd h (by decide), fun h => absurd h (by decide), fun h2 h3 h4 h6 h7 => absurd rfl h7⟩))
      · intro bf ac wv hfb haf hJ K' hK
        obtain ⟨vs, rfl, ja, hB, j4⟩ := hJ
        replace hK := Lib.hid hK
        simp [Region.binds] at haf
        rw [HG.out] at j4
        have e5 := ((j4 5 (by simp [haf])).2.2.2.2 (by decide) (by decide) (by decide) (by decide) (by decide)).trans E5.out
        replace j4 := Lib.hid (And.intro ja j4)
        replace hB := Lib.hid hB
        clear ja haf
        rw [HLIT.out]
        go_simp
        exact hK.out _ _ (NS.next (vs := vs) 8 (by omega) (fun q h => absurd h (by simp)) (x := .int .i64 0) (by rw [HLIT.out]; simp only [upv, e5, Nat.reduceBEq, cond_true, cond_false]) (by rw [HG.out]; exact j4.out) hB.out (by rw [HG.out]; exact fun _ _ h => h) (by rw [HG.out]; exact ⟨fun h => absurd h (by decide), fun h => absurd h (by decide), fun h => absurd h (by decide), fun h => absurd h (by decide), fun _ _ _ _ _ => E8.out.symm⟩))
    · intro bf ac wv hall hJ
      obtain ⟨vs, rfl, -, hB, j4⟩ := hJ
      rw [HG.out] at j4
      rw [hall 7 (by decide)] at hB j4
      have hM := Lib.hid (hB.2 rfl)
      clear hB
      obtain ⟨k, e6, hk, -, hp⟩ := (j4 6 (hall 6 (by decide))).2.2.2.1 rfl
      have hbb := hp rfl
      have eer := ((j4 8 (hall 8 (by decide))).2.2.2.2 (by decide) (by decide) (by decide) (by decide) (by decide)).trans E8.out
      clear j4 hall
      rw [HLIT.out]
      dsimp only
      rw [e6, eer]
      clear e6 eer hp
      go_wp2
      go_meet
      exact ⟨k, rfl, rfl, hk, hbb, hM.out⟩
  case rest =>
    obtain ⟨kB, rfl, rfl, hkB, hbb, bB⟩ := hcut
    obtain ⟨uaB, ucB, faB, fcB, hc, hr⟩ := hbb
    have H12 := Lib.hid (H9.out.step bB)
    clear H9
    have H13 := Lib.hid (H11.out.step bB)
    clear H11
    have H14 := Lib.hid (keep2 bB H10.out)
    clear H10
    clear bB hkB
    have H15 := Lib.hid (hr)
    have H16 := Lib.hid (cs_of_box hc)
    clear hr hc
    obtain ⟨wcB, hwcB⟩ : ∃ z, wc = z := ⟨_, rfl⟩
    rw [hwcB] at H12 H13 H15 H16 H14 ⊢
    clear hwcB
    have xB0 : wcB.cell? ⟨kB, 0, none⟩ = some (.slice uaB vB.length ucB) := H16.out.c 0 rfl
    have xB1 : wcB.cell? ⟨kB, 1, none⟩ = some (.slice faB mB.length fcB) := H16.out.c 1 rfl
    have zB : kB < wcB.heap.size := H16.out.2.2
    go_wp2_with fail
    refine (head_c _ _ _ _ _ H15.out).mono ?_
    rintro e u4 ⟨uaC, ucC, faC, fcC, rfl, b4, hrC⟩
    clear xB0 xB1 zB
    have H17 := Lib.hid (H12.out.step b4)
    clear H12
    have H18 := Lib.hid (H13.out.step b4)
    clear H13
    have H19 := Lib.hid (H15.out.step b4)
    clear H15
    have H20 := Lib.hid (H16.out.step b4)
    clear H16
    have H21 := Lib.hid (keep2 b4 H14.out)
    clear H14
    clear b4
    have H22 := Lib.hid (hrC)
    clear hrC
    have H23 := Lib.hid (H17.out.step (al u4 (.cells #[.slice uaC vC.length ucC, .slice faC mC.length fcC] 25)))
    clear H17
    have H24 := Lib.hid (H18.out.step (al u4 (.cells #[.slice uaC vC.length ucC, .slice faC mC.length fcC] 25)))
    clear H18
    have H25 := Lib.hid (H19.out.step (al u4 (.cells #[.slice uaC vC.length ucC, .slice faC mC.length fcC] 25)))
    clear H19
    have H26 := Lib.hid (H20.out.step (al u4 (.cells #[.slice uaC vC.length ucC, .slice faC mC.length fcC] 25)))
    clear H20
    have H27 := Lib.hid (H22.out.step (al u4 (.cells #[.slice uaC vC.length ucC, .slice faC mC.length fcC] 25)))
    clear H22
    have H28 := Lib.hid (keep2 (al u4 (.cells #[.slice uaC vC.length ucC, .slice faC mC.length fcC] 25)) H21.out)
    clear H21
    have H29 := Lib.hid (Cs.new u4 (u4.heap.size) #[.slice uaC vC.length ucC, .slice faC mC.length fcC] 25 (by simp))
    have xC0 : (u4.alloc (.cells #[.slice uaC vC.length ucC, .slice faC mC.length fcC] 25)).cell? ⟨(u4.heap.size), 0, none⟩ = some (.slice uaC vC.length ucC) := H29.out.c 0 rfl
    have xC1 : (u4.alloc (.cells #[.slice uaC vC.length ucC, .slice faC mC.length fcC] 25)).cell? ⟨(u4.heap.size), 1, none⟩ = some (.slice faC mC.length fcC) := H29.out.c 1 rfl
    have zC : (u4.heap.size) < (u4.alloc (.cells #[.slice uaC vC.length ucC, .slice faC mC.length fcC] 25)).heap.size := H29.out.2.2
    go_wp2_with fail
    refine (head_d _ _ _ _ _ H27.out).mono ?_
    rintro e u5 ⟨uaD, ucD, faD, fcD, rfl, b5, hrD⟩
    clear xC0 xC1 zC
    have H30 := Lib.hid (H23.out.step b5)
    clear H23
    have H31 := Lib.hid (H24.out.step b5)
    clear H24
    have H32 := Lib.hid (H25.out.step b5)
    clear H25
    have H33 := Lib.hid (H26.out.step b5)
    clear H26
    have H34 := Lib.hid (H27.out.step b5)
    clear H27
    have H35 := Lib.hid (H29.out.step b5)
    clear H29
    have H36 := Lib.hid (keep2 b5 H28.out)
    clear H28
    clear b5
    have H37 := Lib.hid (hrD)
    clear hrD
    have H38 := Lib.hid (H30.out.step (al u5 (.cells #[.slice uaD vD.length ucD, .slice faD mD.length fcD] 25)))
    clear H30
    have H39 := Lib.hid (H31.out.step (al u5 (.cells #[.slice uaD vD.length ucD, .slice faD mD.length fcD] 25)))
    clear H31
    have H40 := Lib.hid (H32.out.step (al u5 (.cells #[.slice uaD vD.length ucD, .slice faD mD.length fcD] 25)))
    clear H32
    have H41 := Lib.hid (H33.out.step (al u5 (.cells #[.slice uaD vD.length ucD, .slice faD mD.length fcD] 25)))
    clear H33
    have H42 := Lib.hid (H34.out.step (al u5 (.cells #[.slice uaD vD.length ucD, .slice faD mD.length fcD] 25)))
    clear H34
    have H43 := Lib.hid (H35.out.step (al u5 (.cells #[.slice uaD vD.length ucD, .slice faD mD.length fcD] 25)))
    clear H35
    have H44 := Lib.hid (H37.out.step (al u5 (.cells #[.slice uaD vD.length ucD, .slice faD mD.length fcD] 25)))
    clear H37
    have H45 := Lib.hid (keep2 (al u5 (.cells #[.slice uaD vD.length ucD, .slice faD mD.length fcD] 25)) H36.out)
    clear H36
    have H46 := Lib.hid (Cs.new u5 (u5.heap.size) #[.slice uaD vD.length ucD, .slice faD mD.length fcD] 25 (by simp))
    have xA0 : (u5.alloc (.cells #[.slice uaD vD.length ucD, .slice faD mD.length fcD] 25)).cell? ⟨(u3.heap.size), 0, none⟩ = some (.slice uaA vA.length ucA) := H39.out.c 0 rfl
    have xA1 : (u5.alloc (.cells #[.slice uaD vD.length ucD, .slice faD mD.length fcD] 25)).cell? ⟨(u3.heap.size), 1, none⟩ = some (.slice faA mA.length fcA) := H39.out.c 1 rfl
    have zA : (u3.heap.size) < (u5.alloc (.cells #[.slice uaD vD.length ucD, .slice faD mD.length fcD] 25)).heap.size := H39.out.2.2
    go_wp2_with fail
    refine (head_x _ _ _ _ _ H38.out).mono ?_
    rintro e u6 ⟨uaX, ucX, faX, fcX, rfl, b6, hrX⟩
    clear xA0 xA1 zA
    have H47 := Lib.hid (H38.out.step b6)
    clear H38
    have H48 := Lib.hid (H39.out.step b6)
    clear H39
    have H49 := Lib.hid (H40.out.step b6)
    clear H40
    have H50 := Lib.hid (H41.out.step b6)
    clear H41
    have H51 := Lib.hid (H42.out.step b6)
    clear H42
    have H52 := Lib.hid (H43.out.step b6)
    clear H43
    have H53 := Lib.hid (H44.out.step b6)
    clear H44
    have H54 := Lib.hid (H46.out.step b6)
    clear H46
    have H55 := Lib.hid (keep2 b6 H45.out)
    clear H45
    clear b6
    have H56 := Lib.hid (hrX)
    clear hrX
    have H57 := Lib.hid (H47.out.step (al u6 (.cells #[.slice uaX vX.length ucX, .slice faX mX.length fcX] 25)))
    clear H47
    have H58 := Lib.hid (H48.out.step (al u6 (.cells #[.slice uaX vX.length ucX, .slice faX mX.length fcX] 25)))
    clear H48
    have H59 := Lib.hid (H49.out.step (al u6 (.cells #[.slice uaX vX.length ucX, .slice faX mX.length fcX] 25)))
    clear H49
    have H60 := Lib.hid (H50.out.step (al u6 (.cells #[.slice uaX vX.length ucX, .slice faX mX.length fcX] 25)))
    clear H50
    have H61 := Lib.hid (H51.out.step (al u6 (.cells #[.slice uaX vX.length ucX, .slice faX mX.length fcX] 25)))
    clear H51
    have H62 := Lib.hid (H52.out.step (al u6 (.cells #[.slice uaX vX.length ucX, .slice faX mX.length fcX] 25)))
    clear H52
    have H63 := Lib.hid (H53.out.step (al u6 (.cells #[.slice uaX vX.length ucX, .slice faX mX.length fcX] 25)))
    clear H53
    have H64 := Lib.hid (H54.out.step (al u6 (.cells #[.slice uaX vX.length ucX, .slice faX mX.length fcX] 25)))
    clear H54
    have H65 := Lib.hid (H56.out.step (al u6 (.cells #[.slice uaX vX.length ucX, .slice faX mX.length fcX] 25)))
    clear H56
    have H66 := Lib.hid (keep2 (al u6 (.cells #[.slice uaX vX.length ucX, .slice faX mX.length fcX] 25)) H55.out)
    clear H55
    have H67 := Lib.hid (Cs.new u6 (u6.heap.size) #[.slice uaX vX.length ucX, .slice faX mX.length fcX] 25 (by simp))
    go_upto_region 6 with fail
    obtain ⟨wq, hwq⟩ : ∃ z, (u6.alloc (.cells #[.slice uaX vX.length ucX, .slice faX mX.length fcX] 25)) = z := ⟨_, rfl⟩
    rw [hwq] at H57 H58 H59 H60 H61 H62 H63 H64 H65 H67 H66 ⊢
    clear hwq
    go_cut [11, 12] from 49 to 54 (fun p1 p2 wc => ∃ k : Nat, p1 = .pointer (some ⟨k, 0, none⟩) ∧ p2 = .int .i64 0 ∧ wq.heap.size ≤ k ∧ BB vY mY k wc ∧ Below wq.heap.size wq wc)
    case first =>
      obtain ⟨lit, hlit⟩ : ∃ lit : (Nat → Value) → Act, lit = fun vs => { tmps := List.toArray (Value.bool false :: Value.pointer (some { block := u3.heap.size, off := 0 }) :: Value.int IntKind.i64 0 :: Value.pointer (some { block := kB, off := 0 }) :: Value.int IntKind.i64 0 :: Value.pointer (some { block := u4.heap.size, off := 0 }) :: Value.int IntKind.i64 0 :: Value.pointer (some { block := u5.heap.size, off := 0 }) :: Value.int IntKind.i64 0 :: Value.pointer (some { block := u6.heap.size, off := 0 }) :: Value.int IntKind.i64 0 :: vs 6 :: vs 8 :: undef :: undef :: undef :: undef :: undef :: undef :: undef :: undef :: undef :: Value.tuple #[Value.agg #[Value.slice uaA vA.length ucA, Value.slice faA mA.length fcA], Value.int IntKind.i64 0] :: Value.agg #[Value.slice ua0 (kV 0).length uc0, Value.slice fa0 (kM 0).length fc0] :: Value.agg #[Value.int IntKind.i64 1, Value.int IntKind.i64 0, Value.int IntKind.i64 0, Value.int IntKind.i64 2] :: Value.tuple #[Value.agg #[Value.slice uaA vA.length ucA, Value.slice faA mA.length fcA], Value.int IntKind.i64 0] :: Value.agg #[Value.slice uaA vA.length ucA, Value.slice faA mA.length fcA] :: Value.int IntKind.i64 0 :: u28 :: u29 :: u30 :: u31 :: u32 :: u33 :: Value.tuple #[Value.agg #[Value.slice uaC vC.length ucC, Value.slice faC mC.length fcC], Value.int IntKind.i64 0] :: Value.agg #[Value.slice uaB vB.length ucB, Value.slice faB mB.length fcB] :: Value.tuple #[Value.agg #[Value.slice uaC vC.length ucC, Value.slice faC mC.length fcC], Value.int IntKind.i64 0] :: Value.agg #[Value.slice uaC vC.length ucC, Value.slice faC mC.length fcC] :: Value.int IntKind.i64 0 :: Value.tuple #[Value.agg #[Value.slice uaD vD.length ucD, Value.slice faD mD.length fcD], Value.int IntKind.i64 0] :: Value.agg #[Value.slice uaC vC.length ucC, Value.slice faC mC.length fcC] :: Value.tuple #[Value.agg #[Value.slice uaD vD.length ucD, Value.slice faD mD.length fcD], Value.int IntKind.i64 0] :: Value.agg #[Value.slice uaD vD.length ucD, Value.slice faD mD.length fcD] :: Value.int IntKind.i64 0 :: Value.tuple #[Value.agg #[Value.slice uaX vX.length ucX, Value.slice faX mX.length fcX], Value.int IntKind.i64 0] :: Value.agg #[Value.slice uaA vA.length ucA, Value.slice faA mA.length fcA] :: Value.tuple #[Value.agg #[Value.slice uaX vX.length ucX, Value.slice faX mX.length fcX], Value.int IntKind.i64 0] :: Value.agg #[Value.slice uaX vX.length ucX, Value.slice faX mX.length fcX] :: Value.int IntKind.i64 0 :: vs 3 :: vs 0 :: vs 1 :: vs 2 :: vs 4 :: vs 5 :: undef :: undef :: undef :: undef :: undef :: undef :: undef :: undef :: undef :: undef :: undef :: undef :: undef :: undef :: undef :: undef :: undef :: undef :: undef :: undef :: undef :: undef :: undef :: undef :: undef :: undef :: undef :: undef :: undef :: undef :: undef :: undef :: undef :: undef :: undef :: undef :: undef :: undef :: undef :: undef :: undef :: undef :: undef :: undef :: undef :: undef :: undef :: undef :: undef :: undef :: undef :: undef :: undef :: undef :: undef :: undef :: undef :: undef :: undef :: undef :: undef :: undef :: undef :: undef :: undef :: undef :: undef :: undef :: undef :: undef :: undef :: undef :: undef :: undef :: undef :: undef :: undef :: undef :: undef :: undef :: undef :: undef :: undef :: undef :: undef :: undef :: undef :: undef :: undef :: undef :: undef :: undef :: undef :: undef :: undef :: undef :: undef :: undef :: undef :: undef :: undef :: undef :: undef :: undef :: undef :: undef :: undef :: undef :: undef :: undef :: undef :: undef :: undef :: undef :: undef :: undef :: undef :: undef :: undef :: []), defers := [] } := ⟨_, rfl⟩
      have HLIT := Lib.hid hlit
      clear hlit
      obtain ⟨val, hval⟩ : ∃ val : List Value, val = [.agg #[.slice uaA vA.length ucA, .slice faA mA.length fcA], .agg #[.int .i64 17, .int .i64 0, .int .i64 0, .int .i64 3], undef, undef, undef, .int .i64 0, undef, undef, .int .i64 0] := ⟨_, rfl⟩
      have E0 := Lib.hid (show val.getD 0 undef = .agg #[.slice uaA vA.length ucA, .slice faA mA.length fcA] by rw [hval]; rfl)
      have E1 := Lib.hid (show val.getD 1 undef = .agg #[.int .i64 17, .int .i64 0, .int .i64 0, .int .i64 3] by rw [hval]; rfl)
      have E5 := Lib.hid (show val.getD 5 undef = .int .i64 0 by rw [hval]; rfl)
      have E8 := Lib.hid (show val.getD 8 undef = .int .i64 0 by rw [hval]; rfl)
      clear hval
      obtain ⟨G, hG0⟩ : ∃ G : Bool → Nat → Value → World → Prop, G = (fun bq iq vq ww => (iq = 2 → Qt vY mY 0 bq vq ww) ∧ (iq = 3 → Qt vY mY 0 bq vq ww) ∧ (iq = 4 → Qa vY mY bq vq ww) ∧ (iq = 6 → Qk wq.heap.size vY mY bq vq ww) ∧ (iq ≠ 2 → iq ≠ 3 → iq ≠ 4 → iq ≠ 6 → iq ≠ 7 → vq = val.getD iq undef)) := ⟨_, rfl⟩
      have HG := Lib.hid hG0
      clear hG0
      refine region_inv (NS lit 7 (fun p q => (p == 7 && q == 0) || (p == 7 && q == 1) || (p == 7 && q == 2) || (p == 7 && q == 3) || (p == 7 && q == 4) || (p == 7 && q == 6)) G fun bq wv => (bq = false → Below wq.heap.size wq wv) ∧ (bq = true → Below wq.heap.size wq wv)) (by kernel_rfl) (by decide +kernel) ?_ ?_ ?_
      · exact NS.start (fun i => ([undef, undef, undef, undef, undef, undef, undef, undef, undef] : List Value).getD i undef) (by rw [HLIT.out]; rfl) ⟨fun _ => below_drew _ _, fun h => (by cases h)⟩
      · refine ⟨?_, ?_, ?_, ?_, ?_, ?_, ?_, ?_, ?_, trivial⟩
        · intro bf ac wv hfb haf hJ K' hK
          obtain ⟨vs, rfl, ja, hB, j4⟩ := hJ
          replace hK := Lib.hid hK
          rw [HG.out] at j4
          have hd : bf 7 = false := by
            cases h : bf 7
            · rfl
            · exact absurd ((ja 7 0 rfl h).symm.trans hfb) (by simp)
          have hM := Lib.hid (hB.1 hd)
          replace j4 := Lib.hid (And.intro ja j4)
          replace hB := Lib.hid hB
          clear ja haf
          have xx := H58.out.step hM.out
          have xx0 := xx.c 0 rfl
          have xx1 := xx.c 1 rfl
          have xxz := xx.2.2
          clear xx
          rw [HLIT.out]
          go_simp
          exact hK.out _ _ (NS.next (vs := vs) 0 (by omega) (fun q h => absurd h (by simp)) (x := .agg #[.slice uaA vA.length ucA, .slice faA mA.length fcA]) (by rw [HLIT.out]; rfl) (by rw [HG.out]; exact j4.out) hB.out (by rw [HG.out]; exact fun _ _ h => h) (by rw [HG.out]; exact ⟨fun h => absurd h (by decide), fun h => absurd h (by decide), fun h => absurd h (by decide), fun h => absurd h (by decide), fun _ _ _ _ _ => E0.out.symm⟩))
        · intro bf ac wv hfb haf hJ K' hK
          obtain ⟨vs, rfl, ja, hB, j4⟩ := hJ
          replace hK := Lib.hid hK
          rw [HG.out] at j4
          have hd : bf 7 = false := by
            cases h : bf 7
            · rfl
            · exact absurd ((ja 7 1 rfl h).symm.trans hfb) (by simp)
          have hM := Lib.hid (hB.1 hd)
          replace j4 := Lib.hid (And.intro ja j4)
          replace hB := Lib.hid hB
          clear ja haf
          rw [HLIT.out]
          go_simp
          go_at_call 36
          refine (order_any 17 3 _).mono ?_
          rintro e w4 ⟨rfl, b4⟩
          exact hK.out _ _ (NS.next (vs := vs) 1 (by omega) (fun q h => absurd h (by simp)) (x := .agg #[.int .i64 17, .int .i64 0, .int .i64 0, .int .i64 3]) (by rw [HLIT.out]; rfl) (by rw [HG.out]; exact j4.out) ⟨fun _ => keep2 b4 hM.out, fun e => absurd (e.symm.trans hd) (by simp)⟩ (by rw [HG.out]; exact fun k hbk h => ⟨fun q => (h.1 q).step b4, fun q => (h.2.1 q).step b4, fun q => (h.2.2.1 q).step b4, fun q => (h.2.2.2.1 q).step b4, h.2.2.2.2⟩) (by rw [HG.out]; exact ⟨fun h => absurd h (by decide), fun h => absurd h (by decide), fun h => absurd h (by decide), fun h => absurd h (by decide), fun _ _ _ _ _ => E1.out.symm⟩))
        · intro bf ac wv hfb haf hJ K' hK
          obtain ⟨vs, rfl, ja, hB, j4⟩ := hJ
          replace hK := Lib.hid hK
          simp [Region.binds] at haf
          rw [HG.out] at j4
          have e0 := ((j4 0 (by simp [haf])).2.2.2.2 (by decide) (by decide) (by decide) (by decide) (by decide)).trans E0.out
          have e1 := ((j4 1 (by simp [haf])).2.2.2.2 (by decide) (by decide) (by decide) (by decide) (by decide)).trans E1.out
          have hd : bf 7 = false := by
            cases h : bf 7
            · rfl
            · exact absurd ((ja 7 2 rfl h).symm.trans hfb) (by simp)
          have hM := Lib.hid (hB.1 hd)
          replace j4 := Lib.hid (And.intro ja j4)
          replace hB := Lib.hid hB
          clear ja haf
          rw [HLIT.out]
          go_simp
          go_at_call 11
          refine (head_y _ _ _ _ _ (H57.out.step hM.out)).mono ?_
          rintro e w4 ⟨uar, ucr, far, fcr, rfl, b4, hr⟩
          exact hK.out _ _ (NS.next (vs := vs) 2 (by omega) (fun q h => absurd h (by simp)) (x := (.tuple #[.agg #[.slice uar vY.length ucr, .slice far mY.length fcr], .int .i64 0])) (by rw [HLIT.out]; simp only [upv, e0, e1, Nat.reduceBEq, cond_true, cond_false]) (by rw [HG.out]; exact j4.out) ⟨fun _ => keep2 b4 hM.out, fun e => absurd (e.symm.trans hd) (by simp)⟩ (by rw [HG.out]; exact fun k hbk h => ⟨fun q => (h.1 q).step b4, fun q => (h.2.1 q).step b4, fun q => (h.2.2.1 q).step b4, fun q => (h.2.2.2.1 q).step b4, h.2.2.2.2⟩) (by rw [HG.out]; exact ⟨fun _ => ⟨uar, ucr, far, fcr, rfl, fun _ => hr⟩, fun h => absurd h (by decide), fun h => absurd h (by decide), fun h => absurd h (by decide), fun h2 => absurd rfl h2⟩))
        · intro bf ac wv hfb haf hJ K' hK
          obtain ⟨vs, rfl, ja, hB, j4⟩ := hJ
          replace hK := Lib.hid hK
          simp [Region.binds] at haf
          rw [HG.out] at j4
          have e2 := (j4 2 (by simp [haf])).1 rfl
          replace j4 := Lib.hid (And.intro ja j4)
          replace hB := Lib.hid hB
          clear ja haf
          obtain ⟨uar, ucr, far, fcr, e2, hr⟩ := e2
          rw [HLIT.out]
          go_simp
          exact hK.out _ _ (NS.next (vs := vs) 3 (by omega) (fun q h => absurd h (by simp)) (x := (.tuple #[.agg #[.slice uar vY.length ucr, .slice far mY.length fcr], .int .i64 0])) (by rw [HLIT.out]; simp only [upv, e2, Nat.reduceBEq, cond_true, cond_false]) (by rw [HG.out]; exact j4.out) hB.out (by rw [HG.out]; exact fun _ _ h => h) (by rw [HG.out]; exact ⟨fun h => absurd h (by decide), fun _ => ⟨uar, ucr, far, fcr, rfl, hr⟩, fun h => absurd h (by decide), fun h => absurd h (by decide), fun h2 h3 => absurd rfl h3⟩))
        · intro bf ac wv hfb haf hJ K' hK
          obtain ⟨vs, rfl, ja, hB, j4⟩ := hJ
          replace hK := Lib.hid hK
          simp [Region.binds] at haf
          rw [HG.out] at j4
          have e3 := (j4 3 (by simp [haf])).2.1 rfl
          replace j4 := Lib.hid (And.intro ja j4)
          replace hB := Lib.hid hB
          clear ja haf
          obtain ⟨uar, ucr, far, fcr, e3, hr⟩ := e3
          rw [HLIT.out]
          go_simp
          exact hK.out _ _ (NS.next (vs := vs) 4 (by omega) (fun q h => absurd h (by simp)) (x := (.agg #[.slice uar vY.length ucr, .slice far mY.length fcr])) (by rw [HLIT.out]; simp only [upv, e3, Nat.reduceBEq, cond_true, cond_false]) (by rw [HG.out]; exact j4.out) hB.out (by rw [HG.out]; exact fun _ _ h => h) (by rw [HG.out]; exact ⟨fun h => absurd h (by decide), fun h => absurd h (by decide), fun _ => ⟨uar, ucr, far, fcr, rfl, hr⟩, fun h => absurd h (by decide), fun h2 h3 h4 => absurd rfl h4⟩))
        · intro bf ac wv hfb haf hJ K' hK
          obtain ⟨vs, rfl, ja, hB, j4⟩ := hJ
          replace hK := Lib.hid hK
          simp [Region.binds] at haf
          rw [HG.out] at j4
          have e3 := (j4 3 (by simp [haf])).2.1 rfl
          replace j4 := Lib.hid (And.intro ja j4)
          replace hB := Lib.hid hB
          clear ja haf
          obtain ⟨uar, ucr, far, fcr, e3, hr⟩ := e3
          rw [HLIT.out]
          go_simp
          exact hK.out _ _ (NS.next (vs := vs) 5 (by omega) (fun q h => absurd h (by simp)) (x := .int .i64 0) (by rw [HLIT.out]; simp only [upv, e3, Nat.reduceBEq, cond_true, cond_false]) (by rw [HG.out]; exact j4.out) hB.out (by rw [HG.out]; exact fun _ _ h => h) (by rw [HG.out]; exact ⟨fun h => absurd h (by decide), fun h => absurd h (by decide), fun h => absurd h (by decide), fun h => absurd h (by decide), fun _ _ _ _ _ => E5.out.symm⟩))
        · intro bf ac wv hfb haf hJ K' hK
          obtain ⟨vs, rfl, ja, hB, j4⟩ := hJ
          replace hK := Lib.hid hK
          rw [HG.out] at j4
          have hd : bf 7 = false := by
            cases h : bf 7
            · rfl
            · exact absurd ((ja 7 6 rfl h).symm.trans hfb) (by simp)
          have hM := Lib.hid (hB.1 hd)
          replace j4 := Lib.hid (And.intro ja j4)
          replace hB := Lib.hid hB
          clear ja haf
          rw [HLIT.out]
          go_simp
          have b4 := al wv (.cells ZB 25)
          exact hK.out _ _ (NS.next (vs := vs) 6 (by omega) (fun q h => absurd h (by simp)) (x := (.pointer (some ⟨wv.heap.size, 0, none⟩))) (by rw [HLIT.out]; rfl) (by rw [HG.out]; exact j4.out) ⟨fun _ => keep2 b4 hM.out, fun e => absurd (e.symm.trans hd) (by simp)⟩ (by rw [HG.out]; exact fun k hbk h => ⟨fun q => (h.1 q).step b4, fun q => (h.2.1 q).step b4, fun q => (h.2.2.1 q).step b4, fun q => (h.2.2.2.1 q).step b4, h.2.2.2.2⟩) (by rw [HG.out]; exact ⟨fun h => absurd h (by decide), fun h => absurd h (by decide), fun h => absurd h (by decide), fun _ => ⟨wv.heap.size, rfl, hM.out.size, fun _ => BoxN.new wv ZB 25, fun e => absurd (e.symm.trans hd) (by simp)⟩, fun h2 h3 h4 h6 => absurd rfl h6⟩))
        · intro bf ac wv hfb haf hJ K' hK
          obtain ⟨vs, rfl, ja, hB, j4⟩ := hJ
          replace hK := Lib.hid hK
          simp [Region.binds] at haf
          rw [HG.out] at j4
          have e4 := (j4 4 (by simp [haf])).2.2.1 rfl
          have e6 := (j4 6 (by simp [haf])).2.2.2.1 rfl
          rw [hfb] at j4 hB
          try rw [hfb] at e4
          try rw [hfb] at e6
          have HA := Lib.hid (show ∀ q, (fun p q => (p == 7 && q == 0) || (p == 7 && q == 1) || (p == 7 && q == 2) || (p == 7 && q == 3) || (p == 7 && q == 4) || (p == 7 && q == 6)) 7 q = true → bf q = true from fun q hi => by
            obtain rfl | rfl | rfl | rfl | rfl | rfl : q = 0 ∨ q = 1 ∨ q = 2 ∨ q = 3 ∨ q = 4 ∨ q = 6 := by simpa [or_assoc] using hi
            all_goals simp [haf])
          have hM := Lib.hid (hB.1 rfl)
          replace j4 := Lib.hid j4
          have HE := Lib.hid (And.intro ja HA.out)
          clear ja haf hB HA
          obtain ⟨k, e6, hk, hz, -⟩ := e6
          replace hz := hz rfl
          obtain ⟨uar, ucr, far, fcr, e4, hr⟩ := e4
          replace hr := Lib.hid (hr rfl)
          replace hk := Lib.hid hk
          have HZ := Lib.hid hz
          have HZC := Lib.hid (cs_of_box hz)
          have x0 := HZC.out.c 0 rfl
          have y0 := HZC.out.f 0 (by simp [ZB])
          have x1 := HZC.out.c 1 rfl
          have y1 := HZC.out.f 1 (by simp [ZB])
          have xz := HZC.out.2.2
          clear hz
          rw [HLIT.out]
          go_simp
          have p1 := BB.of_put (bb_zero HZ.out) hr.out
          have p3 : Below wq.heap.size wv (putB wv k (.slice uar vY.length ucr) (.slice far mY.length fcr)) := putB_below _ _ hk.out
          exact hK.out _ _ (NS.put (vs := vs) (w' := putB wv k (.slice uar vY.length ucr) (.slice far mY.length fcr)) (by rw [HLIT.out]; simp only [e6, e4]) HE.out ⟨fun e => (by cases e), fun _ => hM.out.trans p3⟩ (fun j hj hb => by
            rw [HG.out]
            have q := j4.out j hb
            exact ⟨fun h => (q.1 h).put _, fun h => (q.2.1 h).put _, fun h => (q.2.2.1 h).put _, fun h => by
              subst h
              exact ⟨k, e6, hk.out, fun e => (by cases e), fun _ => p1⟩, q.2.2.2.2⟩) (fun v => by rw [HG.out]; exact ⟨fun h => absurd h (by decide), fun h => absurd h (by decide), fun h => absurd h (by decide), fun h => absurd h (by decide), fun h2 h3 h4 h6 h7 => absurd rfl h7⟩))
        · intro bf ac wv hfb haf hJ K' hK
          obtain ⟨vs, rfl, ja, hB, j4⟩ := hJ
          replace hK := Lib.hid hK
          simp [Region.binds] at haf
          rw [HG.out] at j4
          have e5 := ((j4 5 (by simp [haf])).2.2.2.2 (by decide) (by decide) (by decide) (by decide) (by decide)).trans E5.out
          replace j4 := Lib.hid (And.intro ja j4)
          replace hB := Lib.hid hB
          clear ja haf
          rw [HLIT.out]
          go_simp
          exact hK.out _ _ (NS.next (vs := vs) 8 (by omega) (fun q h => absurd h (by simp)) (x := .int .i64 0) (by rw [HLIT.out]; simp only [upv, e5, Nat.reduceBEq, cond_true, cond_false]) (by rw [HG.out]; exact j4.out) hB.out (by rw [HG.out]; exact fun _ _ h => h) (by rw [HG.out]; exact ⟨fun h => absurd h (by decide), fun h => absurd h (by decide), fun h => absurd h (by decide), fun h => absurd h (by decide), fun _ _ _ _ _ => E8.out.symm⟩))
      · intro bf ac wv hall hJ
        obtain ⟨vs, rfl, -, hB, j4⟩ := hJ
        rw [HG.out] at j4
        rw [hall 7 (by decide)] at hB j4
        have hM := Lib.hid (hB.2 rfl)
        clear hB
        obtain ⟨k, e6, hk, -, hp⟩ := (j4 6 (hall 6 (by decide))).2.2.2.1 rfl
        have hbb := hp rfl
        have eer := ((j4 8 (hall 8 (by decide))).2.2.2.2 (by decide) (by decide) (by decide) (by decide) (by decide)).trans E8.out
        clear j4 hall
        rw [HLIT.out]
        dsimp only
        rw [e6, eer]
        clear e6 eer hp
        go_wp2
        go_meet
        exact ⟨k, rfl, rfl, hk, hbb, hM.out⟩
    case rest =>
      obtain ⟨kY, rfl, rfl, hkY, hbb, bY⟩ := hcut
      obtain ⟨uaY, ucY, faY, fcY, hc, hr⟩ := hbb
      have H68 := Lib.hid (H57.out.step bY)
      clear H57
      have H69 := Lib.hid (H58.out.step bY)
      clear H58
      have H70 := Lib.hid (H59.out.step bY)
      clear H59
      have H71 := Lib.hid (H60.out.step bY)
      clear H60
      have H72 := Lib.hid (H61.out.step bY)
      clear H61
      have H73 := Lib.hid (H62.out.step bY)
      clear H62
      have H74 := Lib.hid (H63.out.step bY)
      clear H63
      have H75 := Lib.hid (H64.out.step bY)
      clear H64
      have H76 := Lib.hid (H65.out.step bY)
      clear H65
      have H77 := Lib.hid (H67.out.step bY)
      clear H67
      have H78 := Lib.hid (keep2 bY H66.out)
      clear H66
      clear bY hkY
      have H79 := Lib.hid (hr)
      have H80 := Lib.hid (cs_of_box hc)
      clear hr hc
      obtain ⟨wcY, hwcY⟩ : ∃ z, wc = z := ⟨_, rfl⟩
      rw [hwcY] at H68 H69 H70 H71 H72 H73 H74 H75 H76 H77 H79 H80 H78 ⊢
      clear hwcY
      have xY0 : wcY.cell? ⟨kY, 0, none⟩ = some (.slice uaY vY.length ucY) := H80.out.c 0 rfl
      have xY1 : wcY.cell? ⟨kY, 1, none⟩ = some (.slice faY mY.length fcY) := H80.out.c 1 rfl
      have zY : kY < wcY.heap.size := H80.out.2.2
      go_wp2_with fail
      refine (head_z _ _ _ _ _ H79.out).mono ?_
      rintro e u7 ⟨uaZ, ucZ, faZ, fcZ, rfl, b7, hrZ⟩
      clear xY0 xY1 zY
      have H81 := Lib.hid (H68.out.step b7)
      clear H68
      have H82 := Lib.hid (H69.out.step b7)
      clear H69
      have H83 := Lib.hid (H70.out.step b7)
      clear H70
      have H84 := Lib.hid (H71.out.step b7)
      clear H71
      have H85 := Lib.hid (H72.out.step b7)
      clear H72
      have H86 := Lib.hid (H73.out.step b7)
      clear H73
      have H87 := Lib.hid (H74.out.step b7)
      clear H74
      have H88 := Lib.hid (H75.out.step b7)
      clear H75
      have H89 := Lib.hid (H76.out.step b7)
      clear H76
      have H90 := Lib.hid (H77.out.step b7)
      clear H77
      have H91 := Lib.hid (H79.out.step b7)
      clear H79
      have H92 := Lib.hid (H80.out.step b7)
      clear H80
      have H93 := Lib.hid (keep2 b7 H78.out)
      clear H78
      clear b7
      have H94 := Lib.hid (hrZ)
      clear hrZ
      have H95 := Lib.hid (H81.out.step (al u7 (.cells #[.slice uaZ vZ.length ucZ, .slice faZ mZ.length fcZ] 25)))
      clear H81
      have H96 := Lib.hid (H82.out.step (al u7 (.cells #[.slice uaZ vZ.length ucZ, .slice faZ mZ.length fcZ] 25)))
      clear H82
      have H97 := Lib.hid (H83.out.step (al u7 (.cells #[.slice uaZ vZ.length ucZ, .slice faZ mZ.length fcZ] 25)))
      clear H83
      have H98 := Lib.hid (H84.out.step (al u7 (.cells #[.slice uaZ vZ.length ucZ, .slice faZ mZ.length fcZ] 25)))
      clear H84
      have H99 := Lib.hid (H85.out.step (al u7 (.cells #[.slice uaZ vZ.length ucZ, .slice faZ mZ.length fcZ] 25)))
      clear H85
      have H100 := Lib.hid (H86.out.step (al u7 (.cells #[.slice uaZ vZ.length ucZ, .slice faZ mZ.length fcZ] 25)))
      clear H86
      have H101 := Lib.hid (H87.out.step (al u7 (.cells #[.slice uaZ vZ.length ucZ, .slice faZ mZ.length fcZ] 25)))
      clear H87
      have H102 := Lib.hid (H88.out.step (al u7 (.cells #[.slice uaZ vZ.length ucZ, .slice faZ mZ.length fcZ] 25)))
      clear H88
      have H103 := Lib.hid (H89.out.step (al u7 (.cells #[.slice uaZ vZ.length ucZ, .slice faZ mZ.length fcZ] 25)))
      clear H89
      have H104 := Lib.hid (H90.out.step (al u7 (.cells #[.slice uaZ vZ.length ucZ, .slice faZ mZ.length fcZ] 25)))
      clear H90
      have H105 := Lib.hid (H91.out.step (al u7 (.cells #[.slice uaZ vZ.length ucZ, .slice faZ mZ.length fcZ] 25)))
      clear H91
      have H106 := Lib.hid (H92.out.step (al u7 (.cells #[.slice uaZ vZ.length ucZ, .slice faZ mZ.length fcZ] 25)))
      clear H92
      have H107 := Lib.hid (H94.out.step (al u7 (.cells #[.slice uaZ vZ.length ucZ, .slice faZ mZ.length fcZ] 25)))
      clear H94
      have H108 := Lib.hid (keep2 (al u7 (.cells #[.slice uaZ vZ.length ucZ, .slice faZ mZ.length fcZ] 25)) H93.out)
      clear H93
      have H109 := Lib.hid (Cs.new u7 (u7.heap.size) #[.slice uaZ vZ.length ucZ, .slice faZ mZ.length fcZ] 25 (by simp))
      have xB0 : (u7.alloc (.cells #[.slice uaZ vZ.length ucZ, .slice faZ mZ.length fcZ] 25)).cell? ⟨kB, 0, none⟩ = some (.slice uaB vB.length ucB) := H98.out.c 0 rfl
      have xB1 : (u7.alloc (.cells #[.slice uaZ vZ.length ucZ, .slice faZ mZ.length fcZ] 25)).cell? ⟨kB, 1, none⟩ = some (.slice faB mB.length fcB) := H98.out.c 1 rfl
      have zB : kB < (u7.alloc (.cells #[.slice uaZ vZ.length ucZ, .slice faZ mZ.length fcZ] 25)).heap.size := H98.out.2.2
      go_wp2_with fail
      refine (head_w _ _ _ _ _ H97.out).mono ?_
      rintro e u8 ⟨uaW, ucW, faW, fcW, rfl, b8, hrW⟩
      clear xB0 xB1 zB
      have H110 := Lib.hid (H95.out.step b8)
      clear H95
      have H111 := Lib.hid (H96.out.step b8)
      clear H96
      have H112 := Lib.hid (H97.out.step b8)
      clear H97
      have H113 := Lib.hid (H98.out.step b8)
      clear H98
      have H114 := Lib.hid (H99.out.step b8)
      clear H99
      have H115 := Lib.hid (H100.out.step b8)
      clear H100
      have H116 := Lib.hid (H101.out.step b8)
      clear H101
      have H117 := Lib.hid (H102.out.step b8)
      clear H102
      have H118 := Lib.hid (H103.out.step b8)
      clear H103
      have H119 := Lib.hid (H104.out.step b8)
      clear H104
      have H120 := Lib.hid (H105.out.step b8)
      clear H105
      have H121 := Lib.hid (H106.out.step b8)
      clear H106
      have H122 := Lib.hid (H107.out.step b8)
      clear H107
      have H123 := Lib.hid (H109.out.step b8)
      clear H109
      have H124 := Lib.hid (keep2 b8 H108.out)
      clear H108
      clear b8
      have H125 := Lib.hid (hrW)
      clear hrW
      have H126 := Lib.hid (H110.out.step (al u8 (.cells #[.slice uaW vW.length ucW, .slice faW mW.length fcW] 25)))
      clear H110
      have H127 := Lib.hid (H111.out.step (al u8 (.cells #[.slice uaW vW.length ucW, .slice faW mW.length fcW] 25)))
      clear H111
      have H128 := Lib.hid (H112.out.step (al u8 (.cells #[.slice uaW vW.length ucW, .slice faW mW.length fcW] 25)))
      clear H112
      have H129 := Lib.hid (H113.out.step (al u8 (.cells #[.slice uaW vW.length ucW, .slice faW mW.length fcW] 25)))
      clear H113
      have H130 := Lib.hid (H114.out.step (al u8 (.cells #[.slice uaW vW.length ucW, .slice faW mW.length fcW] 25)))
      clear H114
      have H131 := Lib.hid (H115.out.step (al u8 (.cells #[.slice uaW vW.length ucW, .slice faW mW.length fcW] 25)))
      clear H115
      have H132 := Lib.hid (H116.out.step (al u8 (.cells #[.slice uaW vW.length ucW, .slice faW mW.length fcW] 25)))
      clear H116
      have H133 := Lib.hid (H117.out.step (al u8 (.cells #[.slice uaW vW.length ucW, .slice faW mW.length fcW] 25)))
      clear H117
      have H134 := Lib.hid (H118.out.step (al u8 (.cells #[.slice uaW vW.length ucW, .slice faW mW.length fcW] 25)))
      clear H118
      have H135 := Lib.hid (H119.out.step (al u8 (.cells #[.slice uaW vW.length ucW, .slice faW mW.length fcW] 25)))
      clear H119
      have H136 := Lib.hid (H120.out.step (al u8 (.cells #[.slice uaW vW.length ucW, .slice faW mW.length fcW] 25)))
      clear H120
      have H137 := Lib.hid (H121.out.step (al u8 (.cells #[.slice uaW vW.length ucW, .slice faW mW.length fcW] 25)))
      clear H121
      have H138 := Lib.hid (H122.out.step (al u8 (.cells #[.slice uaW vW.length ucW, .slice faW mW.length fcW] 25)))
      clear H122
      have H139 := Lib.hid (H123.out.step (al u8 (.cells #[.slice uaW vW.length ucW, .slice faW mW.length fcW] 25)))
      clear H123
      have H140 := Lib.hid (H125.out.step (al u8 (.cells #[.slice uaW vW.length ucW, .slice faW mW.length fcW] 25)))
      clear H125
      have H141 := Lib.hid (keep2 (al u8 (.cells #[.slice uaW vW.length ucW, .slice faW mW.length fcW] 25)) H124.out)
      clear H124
      have H142 := Lib.hid (Cs.new u8 (u8.heap.size) #[.slice uaW vW.length ucW, .slice faW mW.length fcW] 25 (by simp))
      have xA0 : (u8.alloc (.cells #[.slice uaW vW.length ucW, .slice faW mW.length fcW] 25)).cell? ⟨(u3.heap.size), 0, none⟩ = some (.slice uaA vA.length ucA) := H127.out.c 0 rfl
      have xA1 : (u8.alloc (.cells #[.slice uaW vW.length ucW, .slice faW mW.length fcW] 25)).cell? ⟨(u3.heap.size), 1, none⟩ = some (.slice faA mA.length fcA) := H127.out.c 1 rfl
      have zA : (u3.heap.size) < (u8.alloc (.cells #[.slice uaW vW.length ucW, .slice faW mW.length fcW] 25)).heap.size := H127.out.2.2
      go_wp2_with fail
      refine (head_m _ _ _ _ _ H126.out).mono ?_
      rintro e u9 ⟨uam, ucm, fam, fcm, rfl, b9, hrm⟩
      clear xA0 xA1 zA
      have H143 := Lib.hid (H126.out.step b9)
      clear H126
      have H144 := Lib.hid (H127.out.step b9)
      clear H127
      have H145 := Lib.hid (H128.out.step b9)
      clear H128
      have H146 := Lib.hid (H129.out.step b9)
      clear H129
      have H147 := Lib.hid (H130.out.step b9)
      clear H130
      have H148 := Lib.hid (H131.out.step b9)
      clear H131
      have H149 := Lib.hid (H132.out.step b9)
      clear H132
      have H150 := Lib.hid (H133.out.step b9)
      clear H133
      have H151 := Lib.hid (H134.out.step b9)
      clear H134
      have H152 := Lib.hid (H135.out.step b9)
      clear H135
      have H153 := Lib.hid (H136.out.step b9)
      clear H136
      have H154 := Lib.hid (H137.out.step b9)
      clear H137
      have H155 := Lib.hid (H138.out.step b9)
      clear H138
      have H156 := Lib.hid (H139.out.step b9)
      clear H139
      have H157 := Lib.hid (H140.out.step b9)
      clear H140
      have H158 := Lib.hid (H142.out.step b9)
      clear H142
      have H159 := Lib.hid (keep2 b9 H141.out)
      clear H141
      clear b9
      clear hrm
      have H160 := Lib.hid (H143.out.step (al u9 (.cells #[.slice uam 0 ucm, .slice fam 0 fcm] 25)))
      clear H143
      have H161 := Lib.hid (H144.out.step (al u9 (.cells #[.slice uam 0 ucm, .slice fam 0 fcm] 25)))
      clear H144
      have H162 := Lib.hid (H145.out.step (al u9 (.cells #[.slice uam 0 ucm, .slice fam 0 fcm] 25)))
      clear H145
      have H163 := Lib.hid (H146.out.step (al u9 (.cells #[.slice uam 0 ucm, .slice fam 0 fcm] 25)))
      clear H146
      have H164 := Lib.hid (H147.out.step (al u9 (.cells #[.slice uam 0 ucm, .slice fam 0 fcm] 25)))
      clear H147
      have H165 := Lib.hid (H148.out.step (al u9 (.cells #[.slice uam 0 ucm, .slice fam 0 fcm] 25)))
      clear H148
      have H166 := Lib.hid (H149.out.step (al u9 (.cells #[.slice uam 0 ucm, .slice fam 0 fcm] 25)))
      clear H149
      have H167 := Lib.hid (H150.out.step (al u9 (.cells #[.slice uam 0 ucm, .slice fam 0 fcm] 25)))
      clear H150
      have H168 := Lib.hid (H151.out.step (al u9 (.cells #[.slice uam 0 ucm, .slice fam 0 fcm] 25)))
      clear H151
      have H169 := Lib.hid (H152.out.step (al u9 (.cells #[.slice uam 0 ucm, .slice fam 0 fcm] 25)))
      clear H152
      have H170 := Lib.hid (H153.out.step (al u9 (.cells #[.slice uam 0 ucm, .slice fam 0 fcm] 25)))
      clear H153
      have H171 := Lib.hid (H154.out.step (al u9 (.cells #[.slice uam 0 ucm, .slice fam 0 fcm] 25)))
      clear H154
      have H172 := Lib.hid (H155.out.step (al u9 (.cells #[.slice uam 0 ucm, .slice fam 0 fcm] 25)))
      clear H155
      have H173 := Lib.hid (H156.out.step (al u9 (.cells #[.slice uam 0 ucm, .slice fam 0 fcm] 25)))
      clear H156
      have H174 := Lib.hid (H157.out.step (al u9 (.cells #[.slice uam 0 ucm, .slice fam 0 fcm] 25)))
      clear H157
      have H175 := Lib.hid (H158.out.step (al u9 (.cells #[.slice uam 0 ucm, .slice fam 0 fcm] 25)))
      clear H158
      have H176 := Lib.hid (keep2 (al u9 (.cells #[.slice uam 0 ucm, .slice fam 0 fcm] 25)) H159.out)
      clear H159
      have H177 := Lib.hid (Cs.new u9 (u9.heap.size) #[.slice uam 0 ucm, .slice fam 0 fcm] 25 (by simp))
      have xZ0 : (u9.alloc (.cells #[.slice uam 0 ucm, .slice fam 0 fcm] 25)).cell? ⟨(u7.heap.size), 0, none⟩ = some (.slice uaZ vZ.length ucZ) := H173.out.c 0 rfl
      have xZ1 : (u9.alloc (.cells #[.slice uam 0 ucm, .slice fam 0 fcm] 25)).cell? ⟨(u7.heap.size), 1, none⟩ = some (.slice faZ mZ.length fcZ) := H173.out.c 1 rfl
      have zZ : (u7.heap.size) < (u9.alloc (.cells #[.slice uam 0 ucm, .slice fam 0 fcm] 25)).heap.size := H173.out.2.2
      go_wp2_with fail
      refine (head_s _ _ _ _ H172.out.1).mono ?_
      rintro e u10 ⟨rfl, b10⟩
      clear xZ0 xZ1 zZ
      have H178 := Lib.hid (H160.out.step b10)
      clear H160
      have H179 := Lib.hid (H161.out.step b10)
      clear H161
      have H180 := Lib.hid (H162.out.step b10)
      clear H162
      have H181 := Lib.hid (H163.out.step b10)
      clear H163
      have H182 := Lib.hid (H164.out.step b10)
      clear H164
      have H183 := Lib.hid (H165.out.step b10)
      clear H165
      have H184 := Lib.hid (H166.out.step b10)
      clear H166
      have H185 := Lib.hid (H167.out.step b10)
      clear H167
      have H186 := Lib.hid (H168.out.step b10)
      clear H168
      have H187 := Lib.hid (H169.out.step b10)
      clear H169
      have H188 := Lib.hid (H170.out.step b10)
      clear H170
      have H189 := Lib.hid (H171.out.step b10)
      clear H171
      have H190 := Lib.hid (H172.out.step b10)
      clear H172
      have H191 := Lib.hid (H173.out.step b10)
      clear H173
      have H192 := Lib.hid (H174.out.step b10)
      clear H174
      have H193 := Lib.hid (H175.out.step b10)
      clear H175
      have H194 := Lib.hid (H177.out.step b10)
      clear H177
      have H195 := Lib.hid (keep2 b10 H176.out)
      clear H176
      clear b10
      have xpA0 : u10.cell? ⟨(u3.heap.size), 0, none⟩ = some (.slice uaA vA.length ucA) := H179.out.c 0 rfl
      have xpA1 : u10.cell? ⟨(u3.heap.size), 1, none⟩ = some (.slice faA mA.length fcA) := H179.out.c 1 rfl
      have zpA : (u3.heap.size) < u10.heap.size := H179.out.2.2
      have H196 := Lib.hid (H178.out.step (al u10 (.cells #[.int .i64 0, .int .i64 2] 3)))
      clear H178
      have H197 := Lib.hid (H179.out.step (al u10 (.cells #[.int .i64 0, .int .i64 2] 3)))
      clear H179
      have H198 := Lib.hid (H180.out.step (al u10 (.cells #[.int .i64 0, .int .i64 2] 3)))
      clear H180
      have H199 := Lib.hid (H181.out.step (al u10 (.cells #[.int .i64 0, .int .i64 2] 3)))
      clear H181
      have H200 := Lib.hid (H182.out.step (al u10 (.cells #[.int .i64 0, .int .i64 2] 3)))
      clear H182
      have H201 := Lib.hid (H183.out.step (al u10 (.cells #[.int .i64 0, .int .i64 2] 3)))
      clear H183
      have H202 := Lib.hid (H184.out.step (al u10 (.cells #[.int .i64 0, .int .i64 2] 3)))
      clear H184
      have H203 := Lib.hid (H185.out.step (al u10 (.cells #[.int .i64 0, .int .i64 2] 3)))
      clear H185
      have H204 := Lib.hid (H186.out.step (al u10 (.cells #[.int .i64 0, .int .i64 2] 3)))
      clear H186
      have H205 := Lib.hid (H187.out.step (al u10 (.cells #[.int .i64 0, .int .i64 2] 3)))
      clear H187
      have H206 := Lib.hid (H188.out.step (al u10 (.cells #[.int .i64 0, .int .i64 2] 3)))
      clear H188
      have H207 := Lib.hid (H189.out.step (al u10 (.cells #[.int .i64 0, .int .i64 2] 3)))
      clear H189
      have H208 := Lib.hid (H190.out.step (al u10 (.cells #[.int .i64 0, .int .i64 2] 3)))
      clear H190
      have H209 := Lib.hid (H191.out.step (al u10 (.cells #[.int .i64 0, .int .i64 2] 3)))
      clear H191
      have H210 := Lib.hid (H192.out.step (al u10 (.cells #[.int .i64 0, .int .i64 2] 3)))
      clear H192
      have H211 := Lib.hid (H193.out.step (al u10 (.cells #[.int .i64 0, .int .i64 2] 3)))
      clear H193
      have H212 := Lib.hid (H194.out.step (al u10 (.cells #[.int .i64 0, .int .i64 2] 3)))
      clear H194
      have H213 := Lib.hid (keep2 (al u10 (.cells #[.int .i64 0, .int .i64 2] 3)) H195.out)
      clear H195
      have H214 := Lib.hid (Cs.new u10 (u10.heap.size) #[.int .i64 0, .int .i64 2] 3 (by simp))
      have xA0 : (u10.alloc (.cells #[.int .i64 0, .int .i64 2] 3)).cell? ⟨(u3.heap.size), 0, none⟩ = some (.slice uaA vA.length ucA) := H197.out.c 0 rfl
      have xA1 : (u10.alloc (.cells #[.int .i64 0, .int .i64 2] 3)).cell? ⟨(u3.heap.size), 1, none⟩ = some (.slice faA mA.length fcA) := H197.out.c 1 rfl
      have zA : (u3.heap.size) < (u10.alloc (.cells #[.int .i64 0, .int .i64 2] 3)).heap.size := H197.out.2.2
      go_wp2_with fail
      refine (head_i _ _ vA [0, 2] _ vals.1.1 H196.out.1 (ints_w rfl (by decide) rfl H214.out)).mono ?_
      rintro e u11 ⟨rfl, b11⟩
      clear xpA0 xpA1 zpA xA0 xA1 zA
      have H215 := Lib.hid (H196.out.step b11)
      clear H196
      have H216 := Lib.hid (H197.out.step b11)
      clear H197
      have H217 := Lib.hid (H198.out.step b11)
      clear H198
      have H218 := Lib.hid (H199.out.step b11)
      clear H199
      have H219 := Lib.hid (H200.out.step b11)
      clear H200
      have H220 := Lib.hid (H201.out.step b11)
      clear H201
      have H221 := Lib.hid (H202.out.step b11)
      clear H202
      have H222 := Lib.hid (H203.out.step b11)
      clear H203
      have H223 := Lib.hid (H204.out.step b11)
      clear H204
      have H224 := Lib.hid (H205.out.step b11)
      clear H205
      have H225 := Lib.hid (H206.out.step b11)
      clear H206
      have H226 := Lib.hid (H207.out.step b11)
      clear H207
      have H227 := Lib.hid (H208.out.step b11)
      clear H208
      have H228 := Lib.hid (H209.out.step b11)
      clear H209
      have H229 := Lib.hid (H210.out.step b11)
      clear H210
      have H230 := Lib.hid (H211.out.step b11)
      clear H211
      have H231 := Lib.hid (H212.out.step b11)
      clear H212
      have H232 := Lib.hid (H214.out.step b11)
      clear H214
      have H233 := Lib.hid (keep2 b11 H213.out)
      clear H213
      clear b11
      clear H232
      have xpB0 : u11.cell? ⟨kB, 0, none⟩ = some (.slice uaB vB.length ucB) := H218.out.c 0 rfl
      have xpB1 : u11.cell? ⟨kB, 1, none⟩ = some (.slice faB mB.length fcB) := H218.out.c 1 rfl
      have zpB : kB < u11.heap.size := H218.out.2.2
      have H234 := Lib.hid (H215.out.step (al u11 (.cells #[.int .i64 0, .int .i64 2, .int .i64 3] 3)))
      clear H215
      have H235 := Lib.hid (H216.out.step (al u11 (.cells #[.int .i64 0, .int .i64 2, .int .i64 3] 3)))
      clear H216
      have H236 := Lib.hid (H217.out.step (al u11 (.cells #[.int .i64 0, .int .i64 2, .int .i64 3] 3)))
      clear H217
      have H237 := Lib.hid (H218.out.step (al u11 (.cells #[.int .i64 0, .int .i64 2, .int .i64 3] 3)))
      clear H218
      have H238 := Lib.hid (H219.out.step (al u11 (.cells #[.int .i64 0, .int .i64 2, .int .i64 3] 3)))
      clear H219
      have H239 := Lib.hid (H220.out.step (al u11 (.cells #[.int .i64 0, .int .i64 2, .int .i64 3] 3)))
      clear H220
      have H240 := Lib.hid (H221.out.step (al u11 (.cells #[.int .i64 0, .int .i64 2, .int .i64 3] 3)))
      clear H221
      have H241 := Lib.hid (H222.out.step (al u11 (.cells #[.int .i64 0, .int .i64 2, .int .i64 3] 3)))
      clear H222
      have H242 := Lib.hid (H223.out.step (al u11 (.cells #[.int .i64 0, .int .i64 2, .int .i64 3] 3)))
      clear H223
      have H243 := Lib.hid (H224.out.step (al u11 (.cells #[.int .i64 0, .int .i64 2, .int .i64 3] 3)))
      clear H224
      have H244 := Lib.hid (H225.out.step (al u11 (.cells #[.int .i64 0, .int .i64 2, .int .i64 3] 3)))
      clear H225
      have H245 := Lib.hid (H226.out.step (al u11 (.cells #[.int .i64 0, .int .i64 2, .int .i64 3] 3)))
      clear H226
      have H246 := Lib.hid (H227.out.step (al u11 (.cells #[.int .i64 0, .int .i64 2, .int .i64 3] 3)))
      clear H227
      have H247 := Lib.hid (H228.out.step (al u11 (.cells #[.int .i64 0, .int .i64 2, .int .i64 3] 3)))
      clear H228
      have H248 := Lib.hid (H229.out.step (al u11 (.cells #[.int .i64 0, .int .i64 2, .int .i64 3] 3)))
      clear H229
      have H249 := Lib.hid (H230.out.step (al u11 (.cells #[.int .i64 0, .int .i64 2, .int .i64 3] 3)))
      clear H230
      have H250 := Lib.hid (H231.out.step (al u11 (.cells #[.int .i64 0, .int .i64 2, .int .i64 3] 3)))
      clear H231
      have H251 := Lib.hid (keep2 (al u11 (.cells #[.int .i64 0, .int .i64 2, .int .i64 3] 3)) H233.out)
      clear H233
      have H252 := Lib.hid (Cs.new u11 (u11.heap.size) #[.int .i64 0, .int .i64 2, .int .i64 3] 3 (by simp))
      have xB0 : (u11.alloc (.cells #[.int .i64 0, .int .i64 2, .int .i64 3] 3)).cell? ⟨kB, 0, none⟩ = some (.slice uaB vB.length ucB) := H237.out.c 0 rfl
      have xB1 : (u11.alloc (.cells #[.int .i64 0, .int .i64 2, .int .i64 3] 3)).cell? ⟨kB, 1, none⟩ = some (.slice faB mB.length fcB) := H237.out.c 1 rfl
      have zB : kB < (u11.alloc (.cells #[.int .i64 0, .int .i64 2, .int .i64 3] 3)).heap.size := H237.out.2.2
      go_wp2_with fail
      refine (head_i _ _ vB [0, 2, 3] _ vals.1.2.1 H236.out.1 (ints_w rfl (by decide) rfl H252.out)).mono ?_
      rintro e u12 ⟨rfl, b12⟩
      clear xpB0 xpB1 zpB xB0 xB1 zB
      have H253 := Lib.hid (H234.out.step b12)
      clear H234
      have H254 := Lib.hid (H235.out.step b12)
      clear H235
      have H255 := Lib.hid (H236.out.step b12)
      clear H236
      have H256 := Lib.hid (H237.out.step b12)
      clear H237
      have H257 := Lib.hid (H238.out.step b12)
      clear H238
      have H258 := Lib.hid (H239.out.step b12)
      clear H239
      have H259 := Lib.hid (H240.out.step b12)
      clear H240
      have H260 := Lib.hid (H241.out.step b12)
      clear H241
      have H261 := Lib.hid (H242.out.step b12)
      clear H242
      have H262 := Lib.hid (H243.out.step b12)
      clear H243
      have H263 := Lib.hid (H244.out.step b12)
      clear H244
      have H264 := Lib.hid (H245.out.step b12)
      clear H245
      have H265 := Lib.hid (H246.out.step b12)
      clear H246
      have H266 := Lib.hid (H247.out.step b12)
      clear H247
      have H267 := Lib.hid (H248.out.step b12)
      clear H248
      have H268 := Lib.hid (H249.out.step b12)
      clear H249
      have H269 := Lib.hid (H250.out.step b12)
      clear H250
      have H270 := Lib.hid (H252.out.step b12)
      clear H252
      have H271 := Lib.hid (keep2 b12 H251.out)
      clear H251
      clear b12
      clear H270
      have xpC0 : u12.cell? ⟨(u4.heap.size), 0, none⟩ = some (.slice uaC vC.length ucC) := H258.out.c 0 rfl
      have xpC1 : u12.cell? ⟨(u4.heap.size), 1, none⟩ = some (.slice faC mC.length fcC) := H258.out.c 1 rfl
      have zpC : (u4.heap.size) < u12.heap.size := H258.out.2.2
      have H272 := Lib.hid (H253.out.step (al u12 (.cells #[.int .i64 2, .int .i64 3] 3)))
      clear H253
      have H273 := Lib.hid (H254.out.step (al u12 (.cells #[.int .i64 2, .int .i64 3] 3)))
      clear H254
      have H274 := Lib.hid (H255.out.step (al u12 (.cells #[.int .i64 2, .int .i64 3] 3)))
      clear H255
      have H275 := Lib.hid (H256.out.step (al u12 (.cells #[.int .i64 2, .int .i64 3] 3)))
      clear H256
      have H276 := Lib.hid (H257.out.step (al u12 (.cells #[.int .i64 2, .int .i64 3] 3)))
      clear H257
      have H277 := Lib.hid (H258.out.step (al u12 (.cells #[.int .i64 2, .int .i64 3] 3)))
      clear H258
      have H278 := Lib.hid (H259.out.step (al u12 (.cells #[.int .i64 2, .int .i64 3] 3)))
      clear H259
      have H279 := Lib.hid (H260.out.step (al u12 (.cells #[.int .i64 2, .int .i64 3] 3)))
      clear H260
      have H280 := Lib.hid (H261.out.step (al u12 (.cells #[.int .i64 2, .int .i64 3] 3)))
      clear H261
      have H281 := Lib.hid (H262.out.step (al u12 (.cells #[.int .i64 2, .int .i64 3] 3)))
      clear H262
      have H282 := Lib.hid (H263.out.step (al u12 (.cells #[.int .i64 2, .int .i64 3] 3)))
      clear H263
      have H283 := Lib.hid (H264.out.step (al u12 (.cells #[.int .i64 2, .int .i64 3] 3)))
      clear H264
      have H284 := Lib.hid (H265.out.step (al u12 (.cells #[.int .i64 2, .int .i64 3] 3)))
      clear H265
      have H285 := Lib.hid (H266.out.step (al u12 (.cells #[.int .i64 2, .int .i64 3] 3)))
      clear H266
      have H286 := Lib.hid (H267.out.step (al u12 (.cells #[.int .i64 2, .int .i64 3] 3)))
      clear H267
      have H287 := Lib.hid (H268.out.step (al u12 (.cells #[.int .i64 2, .int .i64 3] 3)))
      clear H268
      have H288 := Lib.hid (H269.out.step (al u12 (.cells #[.int .i64 2, .int .i64 3] 3)))
      clear H269
      have H289 := Lib.hid (keep2 (al u12 (.cells #[.int .i64 2, .int .i64 3] 3)) H271.out)
      clear H271
      have H290 := Lib.hid (Cs.new u12 (u12.heap.size) #[.int .i64 2, .int .i64 3] 3 (by simp))
      have xC0 : (u12.alloc (.cells #[.int .i64 2, .int .i64 3] 3)).cell? ⟨(u4.heap.size), 0, none⟩ = some (.slice uaC vC.length ucC) := H277.out.c 0 rfl
      have xC1 : (u12.alloc (.cells #[.int .i64 2, .int .i64 3] 3)).cell? ⟨(u4.heap.size), 1, none⟩ = some (.slice faC mC.length fcC) := H277.out.c 1 rfl
      have zC : (u4.heap.size) < (u12.alloc (.cells #[.int .i64 2, .int .i64 3] 3)).heap.size := H277.out.2.2
      go_wp2_with fail
      refine (head_i _ _ vC [2, 3] _ vals.1.2.2.1 H276.out.1 (ints_w rfl (by decide) rfl H290.out)).mono ?_
      rintro e u13 ⟨rfl, b13⟩
      clear xpC0 xpC1 zpC xC0 xC1 zC
      have H291 := Lib.hid (H272.out.step b13)
      clear H272
      have H292 := Lib.hid (H273.out.step b13)
      clear H273
      have H293 := Lib.hid (H274.out.step b13)
      clear H274
      have H294 := Lib.hid (H275.out.step b13)
      clear H275
      have H295 := Lib.hid (H276.out.step b13)
      clear H276
      have H296 := Lib.hid (H277.out.step b13)
      clear H277
      have H297 := Lib.hid (H278.out.step b13)
      clear H278
      have H298 := Lib.hid (H279.out.step b13)
      clear H279
      have H299 := Lib.hid (H280.out.step b13)
      clear H280
      have H300 := Lib.hid (H281.out.step b13)
      clear H281
      have H301 := Lib.hid (H282.out.step b13)
      clear H282
      have H302 := Lib.hid (H283.out.step b13)
      clear H283
      have H303 := Lib.hid (H284.out.step b13)
      clear H284
      have H304 := Lib.hid (H285.out.step b13)
      clear H285
      have H305 := Lib.hid (H286.out.step b13)
      clear H286
      have H306 := Lib.hid (H287.out.step b13)
      clear H287
      have H307 := Lib.hid (H288.out.step b13)
      clear H288
      have H308 := Lib.hid (H290.out.step b13)
      clear H290
      have H309 := Lib.hid (keep2 b13 H289.out)
      clear H289
      clear b13
      clear H308
      have xpD0 : u13.cell? ⟨(u5.heap.size), 0, none⟩ = some (.slice uaD vD.length ucD) := H298.out.c 0 rfl
      have xpD1 : u13.cell? ⟨(u5.heap.size), 1, none⟩ = some (.slice faD mD.length fcD) := H298.out.c 1 rfl
      have zpD : (u5.heap.size) < u13.heap.size := H298.out.2.2
      have H310 := Lib.hid (H291.out.step (al u13 (.cells #[.int .i64 2, .int .i64 3] 3)))
      clear H291
      have H311 := Lib.hid (H292.out.step (al u13 (.cells #[.int .i64 2, .int .i64 3] 3)))
      clear H292
      have H312 := Lib.hid (H293.out.step (al u13 (.cells #[.int .i64 2, .int .i64 3] 3)))
      clear H293
      have H313 := Lib.hid (H294.out.step (al u13 (.cells #[.int .i64 2, .int .i64 3] 3)))
      clear H294
      have H314 := Lib.hid (H295.out.step (al u13 (.cells #[.int .i64 2, .int .i64 3] 3)))
      clear H295
      have H315 := Lib.hid (H296.out.step (al u13 (.cells #[.int .i64 2, .int .i64 3] 3)))
      clear H296
      have H316 := Lib.hid (H297.out.step (al u13 (.cells #[.int .i64 2, .int .i64 3] 3)))
      clear H297
      have H317 := Lib.hid (H298.out.step (al u13 (.cells #[.int .i64 2, .int .i64 3] 3)))
      clear H298
      have H318 := Lib.hid (H299.out.step (al u13 (.cells #[.int .i64 2, .int .i64 3] 3)))
      clear H299
      have H319 := Lib.hid (H300.out.step (al u13 (.cells #[.int .i64 2, .int .i64 3] 3)))
      clear H300
      have H320 := Lib.hid (H301.out.step (al u13 (.cells #[.int .i64 2, .int .i64 3] 3)))
      clear H301
      have H321 := Lib.hid (H302.out.step (al u13 (.cells #[.int .i64 2, .int .i64 3] 3)))
      clear H302
      have H322 := Lib.hid (H303.out.step (al u13 (.cells #[.int .i64 2, .int .i64 3] 3)))
      clear H303
      have H323 := Lib.hid (H304.out.step (al u13 (.cells #[.int .i64 2, .int .i64 3] 3)))
      clear H304
      have H324 := Lib.hid (H305.out.step (al u13 (.cells #[.int .i64 2, .int .i64 3] 3)))
      clear H305
      have H325 := Lib.hid (H306.out.step (al u13 (.cells #[.int .i64 2, .int .i64 3] 3)))
      clear H306
      have H326 := Lib.hid (H307.out.step (al u13 (.cells #[.int .i64 2, .int .i64 3] 3)))
      clear H307
      have H327 := Lib.hid (keep2 (al u13 (.cells #[.int .i64 2, .int .i64 3] 3)) H309.out)
      clear H309
      have H328 := Lib.hid (Cs.new u13 (u13.heap.size) #[.int .i64 2, .int .i64 3] 3 (by simp))
      have xD0 : (u13.alloc (.cells #[.int .i64 2, .int .i64 3] 3)).cell? ⟨(u5.heap.size), 0, none⟩ = some (.slice uaD vD.length ucD) := H317.out.c 0 rfl
      have xD1 : (u13.alloc (.cells #[.int .i64 2, .int .i64 3] 3)).cell? ⟨(u5.heap.size), 1, none⟩ = some (.slice faD mD.length fcD) := H317.out.c 1 rfl
      have zD : (u5.heap.size) < (u13.alloc (.cells #[.int .i64 2, .int .i64 3] 3)).heap.size := H317.out.2.2
      go_wp2_with fail
      refine (head_i _ _ vD [2, 3] _ vals.1.2.2.2 H316.out.1 (ints_w rfl (by decide) rfl H328.out)).mono ?_
      rintro e u14 ⟨rfl, b14⟩
      clear xpD0 xpD1 zpD xD0 xD1 zD
      have H329 := Lib.hid (H310.out.step b14)
      clear H310
      have H330 := Lib.hid (H311.out.step b14)
      clear H311
      have H331 := Lib.hid (H312.out.step b14)
      clear H312
      have H332 := Lib.hid (H313.out.step b14)
      clear H313
      have H333 := Lib.hid (H314.out.step b14)
      clear H314
      have H334 := Lib.hid (H315.out.step b14)
      clear H315
      have H335 := Lib.hid (H316.out.step b14)
      clear H316
      have H336 := Lib.hid (H317.out.step b14)
      clear H317
      have H337 := Lib.hid (H318.out.step b14)
      clear H318
      have H338 := Lib.hid (H319.out.step b14)
      clear H319
      have H339 := Lib.hid (H320.out.step b14)
      clear H320
      have H340 := Lib.hid (H321.out.step b14)
      clear H321
      have H341 := Lib.hid (H322.out.step b14)
      clear H322
      have H342 := Lib.hid (H323.out.step b14)
      clear H323
      have H343 := Lib.hid (H324.out.step b14)
      clear H324
      have H344 := Lib.hid (H325.out.step b14)
      clear H325
      have H345 := Lib.hid (H326.out.step b14)
      clear H326
      have H346 := Lib.hid (H328.out.step b14)
      clear H328
      have H347 := Lib.hid (keep2 b14 H327.out)
      clear H327
      clear b14
      clear H346
      have xD0 : u14.cell? ⟨(u5.heap.size), 0, none⟩ = some (.slice uaD vD.length ucD) := H336.out.c 0 rfl
      have xD1 : u14.cell? ⟨(u5.heap.size), 1, none⟩ = some (.slice faD mD.length fcD) := H336.out.c 1 rfl
      have zD : (u5.heap.size) < u14.heap.size := H336.out.2.2
      have hmd := vals.2.2.2.2
      have xpX0 : u14.cell? ⟨(u6.heap.size), 0, none⟩ = some (.slice uaX vX.length ucX) := H338.out.c 0 rfl
      have xpX1 : u14.cell? ⟨(u6.heap.size), 1, none⟩ = some (.slice faX mX.length fcX) := H338.out.c 1 rfl
      have zpX : (u6.heap.size) < u14.heap.size := H338.out.2.2
      have H348 := Lib.hid (H329.out.step (al u14 (.cells #[.int .i64 2] 3)))
      clear H329
      have H349 := Lib.hid (H330.out.step (al u14 (.cells #[.int .i64 2] 3)))
      clear H330
      have H350 := Lib.hid (H331.out.step (al u14 (.cells #[.int .i64 2] 3)))
      clear H331
      have H351 := Lib.hid (H332.out.step (al u14 (.cells #[.int .i64 2] 3)))
      clear H332
      have H352 := Lib.hid (H333.out.step (al u14 (.cells #[.int .i64 2] 3)))
      clear H333
      have H353 := Lib.hid (H334.out.step (al u14 (.cells #[.int .i64 2] 3)))
      clear H334
      have H354 := Lib.hid (H335.out.step (al u14 (.cells #[.int .i64 2] 3)))
      clear H335
      have H355 := Lib.hid (H336.out.step (al u14 (.cells #[.int .i64 2] 3)))
      clear H336
      have H356 := Lib.hid (H337.out.step (al u14 (.cells #[.int .i64 2] 3)))
      clear H337
      have H357 := Lib.hid (H338.out.step (al u14 (.cells #[.int .i64 2] 3)))
      clear H338
      have H358 := Lib.hid (H339.out.step (al u14 (.cells #[.int .i64 2] 3)))
      clear H339
      have H359 := Lib.hid (H340.out.step (al u14 (.cells #[.int .i64 2] 3)))
      clear H340
      have H360 := Lib.hid (H341.out.step (al u14 (.cells #[.int .i64 2] 3)))
      clear H341
      have H361 := Lib.hid (H342.out.step (al u14 (.cells #[.int .i64 2] 3)))
      clear H342
      have H362 := Lib.hid (H343.out.step (al u14 (.cells #[.int .i64 2] 3)))
      clear H343
      have H363 := Lib.hid (H344.out.step (al u14 (.cells #[.int .i64 2] 3)))
      clear H344
      have H364 := Lib.hid (H345.out.step (al u14 (.cells #[.int .i64 2] 3)))
      clear H345
      have H365 := Lib.hid (keep2 (al u14 (.cells #[.int .i64 2] 3)) H347.out)
      clear H347
      have H366 := Lib.hid (Cs.new u14 (u14.heap.size) #[.int .i64 2] 3 (by simp))
      have xX0 : (u14.alloc (.cells #[.int .i64 2] 3)).cell? ⟨(u6.heap.size), 0, none⟩ = some (.slice uaX vX.length ucX) := H357.out.c 0 rfl
      have xX1 : (u14.alloc (.cells #[.int .i64 2] 3)).cell? ⟨(u6.heap.size), 1, none⟩ = some (.slice faX mX.length fcX) := H357.out.c 1 rfl
      have zX : (u6.heap.size) < (u14.alloc (.cells #[.int .i64 2] 3)).heap.size := H357.out.2.2
      go_wp2_with fail
      refine (head_i _ _ vX [2] _ vals.2.1 H356.out.1 (ints_w rfl (by decide) rfl H366.out)).mono ?_
      rintro e u15 ⟨rfl, b15⟩
      clear xD0 xD1 zD xpX0 xpX1 zpX xX0 xX1 zX
      have H367 := Lib.hid (H348.out.step b15)
      clear H348
      have H368 := Lib.hid (H349.out.step b15)
      clear H349
      have H369 := Lib.hid (H350.out.step b15)
      clear H350
      have H370 := Lib.hid (H351.out.step b15)
      clear H351
      have H371 := Lib.hid (H352.out.step b15)
      clear H352
      have H372 := Lib.hid (H353.out.step b15)
      clear H353
      have H373 := Lib.hid (H354.out.step b15)
      clear H354
      have H374 := Lib.hid (H355.out.step b15)
      clear H355
      have H375 := Lib.hid (H356.out.step b15)
      clear H356
      have H376 := Lib.hid (H357.out.step b15)
      clear H357
      have H377 := Lib.hid (H358.out.step b15)
      clear H358
      have H378 := Lib.hid (H359.out.step b15)
      clear H359
      have H379 := Lib.hid (H360.out.step b15)
      clear H360
      have H380 := Lib.hid (H361.out.step b15)
      clear H361
      have H381 := Lib.hid (H362.out.step b15)
      clear H362
      have H382 := Lib.hid (H363.out.step b15)
      clear H363
      have H383 := Lib.hid (H364.out.step b15)
      clear H364
      have H384 := Lib.hid (H366.out.step b15)
      clear H366
      have H385 := Lib.hid (keep2 b15 H365.out)
      clear H365
      clear b15
      clear H384
      have xpZ0 : u15.cell? ⟨(u7.heap.size), 0, none⟩ = some (.slice uaZ vZ.length ucZ) := H380.out.c 0 rfl
      have xpZ1 : u15.cell? ⟨(u7.heap.size), 1, none⟩ = some (.slice faZ mZ.length fcZ) := H380.out.c 1 rfl
      have zpZ : (u7.heap.size) < u15.heap.size := H380.out.2.2
      have H386 := Lib.hid (H367.out.step (al u15 (.cells #[.int .i64 3] 3)))
      clear H367
      have H387 := Lib.hid (H368.out.step (al u15 (.cells #[.int .i64 3] 3)))
      clear H368
      have H388 := Lib.hid (H369.out.step (al u15 (.cells #[.int .i64 3] 3)))
      clear H369
      have H389 := Lib.hid (H370.out.step (al u15 (.cells #[.int .i64 3] 3)))
      clear H370
      have H390 := Lib.hid (H371.out.step (al u15 (.cells #[.int .i64 3] 3)))
      clear H371
      have H391 := Lib.hid (H372.out.step (al u15 (.cells #[.int .i64 3] 3)))
      clear H372
      have H392 := Lib.hid (H373.out.step (al u15 (.cells #[.int .i64 3] 3)))
      clear H373
      have H393 := Lib.hid (H374.out.step (al u15 (.cells #[.int .i64 3] 3)))
      clear H374
      have H394 := Lib.hid (H375.out.step (al u15 (.cells #[.int .i64 3] 3)))
      clear H375
      have H395 := Lib.hid (H376.out.step (al u15 (.cells #[.int .i64 3] 3)))
      clear H376
      have H396 := Lib.hid (H377.out.step (al u15 (.cells #[.int .i64 3] 3)))
      clear H377
      have H397 := Lib.hid (H378.out.step (al u15 (.cells #[.int .i64 3] 3)))
      clear H378
      have H398 := Lib.hid (H379.out.step (al u15 (.cells #[.int .i64 3] 3)))
      clear H379
      have H399 := Lib.hid (H380.out.step (al u15 (.cells #[.int .i64 3] 3)))
      clear H380
      have H400 := Lib.hid (H381.out.step (al u15 (.cells #[.int .i64 3] 3)))
      clear H381
      have H401 := Lib.hid (H382.out.step (al u15 (.cells #[.int .i64 3] 3)))
      clear H382
      have H402 := Lib.hid (H383.out.step (al u15 (.cells #[.int .i64 3] 3)))
      clear H383
      have H403 := Lib.hid (keep2 (al u15 (.cells #[.int .i64 3] 3)) H385.out)
      clear H385
      have H404 := Lib.hid (Cs.new u15 (u15.heap.size) #[.int .i64 3] 3 (by simp))
      have xZ0 : (u15.alloc (.cells #[.int .i64 3] 3)).cell? ⟨(u7.heap.size), 0, none⟩ = some (.slice uaZ vZ.length ucZ) := H399.out.c 0 rfl
      have xZ1 : (u15.alloc (.cells #[.int .i64 3] 3)).cell? ⟨(u7.heap.size), 1, none⟩ = some (.slice faZ mZ.length fcZ) := H399.out.c 1 rfl
      have zZ : (u7.heap.size) < (u15.alloc (.cells #[.int .i64 3] 3)).heap.size := H399.out.2.2
      go_wp2_with fail
      refine (head_i _ _ vZ [3] _ vals.2.2.1 H398.out.1 (ints_w rfl (by decide) rfl H404.out)).mono ?_
      rintro e u16 ⟨rfl, b16⟩
      clear xpZ0 xpZ1 zpZ xZ0 xZ1 zZ
      have H405 := Lib.hid (H386.out.step b16)
      clear H386
      have H406 := Lib.hid (H387.out.step b16)
      clear H387
      have H407 := Lib.hid (H388.out.step b16)
      clear H388
      have H408 := Lib.hid (H389.out.step b16)
      clear H389
      have H409 := Lib.hid (H390.out.step b16)
      clear H390
      have H410 := Lib.hid (H391.out.step b16)
      clear H391
      have H411 := Lib.hid (H392.out.step b16)
      clear H392
      have H412 := Lib.hid (H393.out.step b16)
      clear H393
      have H413 := Lib.hid (H394.out.step b16)
      clear H394
      have H414 := Lib.hid (H395.out.step b16)
      clear H395
      have H415 := Lib.hid (H396.out.step b16)
      clear H396
      have H416 := Lib.hid (H397.out.step b16)
      clear H397
      have H417 := Lib.hid (H398.out.step b16)
      clear H398
      have H418 := Lib.hid (H399.out.step b16)
      clear H399
      have H419 := Lib.hid (H400.out.step b16)
      clear H400
      have H420 := Lib.hid (H401.out.step b16)
      clear H401
      have H421 := Lib.hid (H402.out.step b16)
      clear H402
      have H422 := Lib.hid (H404.out.step b16)
      clear H404
      have H423 := Lib.hid (keep2 b16 H403.out)
      clear H403
      clear b16
      clear H422
      have xpW0 : u16.cell? ⟨(u8.heap.size), 0, none⟩ = some (.slice uaW vW.length ucW) := H420.out.c 0 rfl
      have xpW1 : u16.cell? ⟨(u8.heap.size), 1, none⟩ = some (.slice faW mW.length fcW) := H420.out.c 1 rfl
      have zpW : (u8.heap.size) < u16.heap.size := H420.out.2.2
      have H424 := Lib.hid (H405.out.step (al u16 (.cells #[.int .i64 3] 3)))
      clear H405
      have H425 := Lib.hid (H406.out.step (al u16 (.cells #[.int .i64 3] 3)))
      clear H406
      have H426 := Lib.hid (H407.out.step (al u16 (.cells #[.int .i64 3] 3)))
      clear H407
      have H427 := Lib.hid (H408.out.step (al u16 (.cells #[.int .i64 3] 3)))
      clear H408
      have H428 := Lib.hid (H409.out.step (al u16 (.cells #[.int .i64 3] 3)))
      clear H409
      have H429 := Lib.hid (H410.out.step (al u16 (.cells #[.int .i64 3] 3)))
      clear H410
      have H430 := Lib.hid (H411.out.step (al u16 (.cells #[.int .i64 3] 3)))
      clear H411
      have H431 := Lib.hid (H412.out.step (al u16 (.cells #[.int .i64 3] 3)))
      clear H412
      have H432 := Lib.hid (H413.out.step (al u16 (.cells #[.int .i64 3] 3)))
      clear H413
      have H433 := Lib.hid (H414.out.step (al u16 (.cells #[.int .i64 3] 3)))
      clear H414
      have H434 := Lib.hid (H415.out.step (al u16 (.cells #[.int .i64 3] 3)))
      clear H415
      have H435 := Lib.hid (H416.out.step (al u16 (.cells #[.int .i64 3] 3)))
      clear H416
      have H436 := Lib.hid (H417.out.step (al u16 (.cells #[.int .i64 3] 3)))
      clear H417
      have H437 := Lib.hid (H418.out.step (al u16 (.cells #[.int .i64 3] 3)))
      clear H418
      have H438 := Lib.hid (H419.out.step (al u16 (.cells #[.int .i64 3] 3)))
      clear H419
      have H439 := Lib.hid (H420.out.step (al u16 (.cells #[.int .i64 3] 3)))
      clear H420
      have H440 := Lib.hid (H421.out.step (al u16 (.cells #[.int .i64 3] 3)))
      clear H421
      have H441 := Lib.hid (keep2 (al u16 (.cells #[.int .i64 3] 3)) H423.out)
      clear H423
      have H442 := Lib.hid (Cs.new u16 (u16.heap.size) #[.int .i64 3] 3 (by simp))
      have xW0 : (u16.alloc (.cells #[.int .i64 3] 3)).cell? ⟨(u8.heap.size), 0, none⟩ = some (.slice uaW vW.length ucW) := H439.out.c 0 rfl
      have xW1 : (u16.alloc (.cells #[.int .i64 3] 3)).cell? ⟨(u8.heap.size), 1, none⟩ = some (.slice faW mW.length fcW) := H439.out.c 1 rfl
      have zW : (u8.heap.size) < (u16.alloc (.cells #[.int .i64 3] 3)).heap.size := H439.out.2.2
      go_wp2_with fail
      refine (head_i _ _ vW [3] _ vals.2.2.2.1 H438.out.1 (ints_w rfl (by decide) rfl H442.out)).mono ?_
      rintro e u17 ⟨rfl, b17⟩
      clear xpW0 xpW1 zpW xW0 xW1 zW
      have H443 := Lib.hid (H424.out.step b17)
      clear H424
      have H444 := Lib.hid (H425.out.step b17)
      clear H425
      have H445 := Lib.hid (H426.out.step b17)
      clear H426
      have H446 := Lib.hid (H427.out.step b17)
      clear H427
      have H447 := Lib.hid (H428.out.step b17)
      clear H428
      have H448 := Lib.hid (H429.out.step b17)
      clear H429
      have H449 := Lib.hid (H430.out.step b17)
      clear H430
      have H450 := Lib.hid (H431.out.step b17)
      clear H431
      have H451 := Lib.hid (H432.out.step b17)
      clear H432
      have H452 := Lib.hid (H433.out.step b17)
      clear H433
      have H453 := Lib.hid (H434.out.step b17)
      clear H434
      have H454 := Lib.hid (H435.out.step b17)
      clear H435
      have H455 := Lib.hid (H436.out.step b17)
      clear H436
      have H456 := Lib.hid (H437.out.step b17)
      clear H437
      have H457 := Lib.hid (H438.out.step b17)
      clear H438
      have H458 := Lib.hid (H439.out.step b17)
      clear H439
      have H459 := Lib.hid (H440.out.step b17)
      clear H440
      have H460 := Lib.hid (H442.out.step b17)
      clear H442
      have H461 := Lib.hid (keep2 b17 H441.out)
      clear H441
      clear b17
      clear H460
      have xC0 : u17.cell? ⟨(u4.heap.size), 0, none⟩ = some (.slice uaC vC.length ucC) := H448.out.c 0 rfl
      have xC1 : u17.cell? ⟨(u4.heap.size), 1, none⟩ = some (.slice faC mC.length fcC) := H448.out.c 1 rfl
      have zC : (u4.heap.size) < u17.heap.size := H448.out.2.2
      go_wp2_with fail
      refine (head_n _ _ 2 true _ (by rw [vals.1.2.2.1]; decide) H447.out.1).mono ?_
      rintro e u18 ⟨rfl, b18⟩
      clear xC0 xC1 zC
      have H462 := Lib.hid (H443.out.step b18)
      clear H443
      have H463 := Lib.hid (H444.out.step b18)
      clear H444
      have H464 := Lib.hid (H445.out.step b18)
      clear H445
      have H465 := Lib.hid (H446.out.step b18)
      clear H446
      have H466 := Lib.hid (H447.out.step b18)
      clear H447
      have H467 := Lib.hid (H448.out.step b18)
      clear H448
      have H468 := Lib.hid (H449.out.step b18)
      clear H449
      have H469 := Lib.hid (H450.out.step b18)
      clear H450
      have H470 := Lib.hid (H451.out.step b18)
      clear H451
      have H471 := Lib.hid (H452.out.step b18)
      clear H452
      have H472 := Lib.hid (H453.out.step b18)
      clear H453
      have H473 := Lib.hid (H454.out.step b18)
      clear H454
      have H474 := Lib.hid (H455.out.step b18)
      clear H455
      have H475 := Lib.hid (H456.out.step b18)
      clear H456
      have H476 := Lib.hid (H457.out.step b18)
      clear H457
      have H477 := Lib.hid (H458.out.step b18)
      clear H458
      have H478 := Lib.hid (H459.out.step b18)
      clear H459
      have H479 := Lib.hid (keep2 b18 H461.out)
      clear H461
      clear b18
      have xC0 : u18.cell? ⟨(u4.heap.size), 0, none⟩ = some (.slice uaC vC.length ucC) := H467.out.c 0 rfl
      have xC1 : u18.cell? ⟨(u4.heap.size), 1, none⟩ = some (.slice faC mC.length fcC) := H467.out.c 1 rfl
      have zC : (u4.heap.size) < u18.heap.size := H467.out.2.2
      go_wp2_with fail
      refine (head_n _ _ 0 false _ (by rw [vals.1.2.2.1]; decide) H466.out.1).mono ?_
      rintro e u19 ⟨rfl, b19⟩
      clear xC0 xC1 zC
      have H480 := Lib.hid (H462.out.step b19)
      clear H462
      have H481 := Lib.hid (H463.out.step b19)
      clear H463
      have H482 := Lib.hid (H464.out.step b19)
      clear H464
      have H483 := Lib.hid (H465.out.step b19)
      clear H465
      have H484 := Lib.hid (H466.out.step b19)
      clear H466
      have H485 := Lib.hid (H467.out.step b19)
      clear H467
      have H486 := Lib.hid (H468.out.step b19)
      clear H468
      have H487 := Lib.hid (H469.out.step b19)
      clear H469
      have H488 := Lib.hid (H470.out.step b19)
      clear H470
      have H489 := Lib.hid (H471.out.step b19)
      clear H471
      have H490 := Lib.hid (H472.out.step b19)
      clear H472
      have H491 := Lib.hid (H473.out.step b19)
      clear H473
      have H492 := Lib.hid (H474.out.step b19)
      clear H474
      have H493 := Lib.hid (H475.out.step b19)
      clear H475
      have H494 := Lib.hid (H476.out.step b19)
      clear H476
      have H495 := Lib.hid (H477.out.step b19)
      clear H477
      have H496 := Lib.hid (H478.out.step b19)
      clear H478
      have H497 := Lib.hid (keep2 b19 H479.out)
      clear H479
      clear b19
      go_wp2_with fail
      go_ret
      exact ⟨rfl, H497.out⟩
end Go.Proofs.Ytolinnmhdclgpaa
