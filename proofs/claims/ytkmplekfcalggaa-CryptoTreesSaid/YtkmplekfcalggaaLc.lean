/- Law CryptoTrees, the walk. -/
import Derived.Test.YtkmplekfcalggaaNr
namespace Go.Proofs.Ytkmplekfcalggaa
open Go.RowKit
set_option maxRecDepth 100000 in
set_option maxHeartbeats 8000000 in
theorem trees_few (v : Value) (L : List (List Int)) (w : World) (h : RowsAt w v L) (hcap : CapOk v) (hf : fewB L 60 = false) : Calls Try.prog 7 #[v] w fun e w' => e = .returned (.bool true) ∧ Below w.heap.size w w' := by
  have HR0 := Lib.hid h
  obtain ⟨a, cap, rfl, hm, -⟩ := h
  unfold maxLen at hm
  have HCP := Lib.hid (hcap _ _ _ rfl)
  clear hcap
  replace hf := Lib.hid hf
  have HB0 := Lib.hid (Below.refl w.heap.size w)
  go_enter Try.func7, Try.ntmps7
  go_wp2_with fail
  refine (head_any _).mono ?_
  rintro e u1 ⟨rfl, b1⟩
  have FR_1 := Lib.hid (HR0.out.step b1)
  clear HR0
  have HB2 := Lib.hid (keep2 b1 HB0.out)
  clear HB0 b1
  go_wp2_with fail
  refine (few_any _ L 60 _ FR_1.out).mono ?_
  rintro e w' ⟨rfl, rfl⟩
  rw [hf.out]
  go_wp2
  go_ret
  exact ⟨rfl, HB2.out⟩
set_option maxRecDepth 100000 in
set_option maxHeartbeats 8000000 in
theorem trees_nil (v : Value) (L : List (List Int)) (w : World) (h : RowsAt w v L) (hcap : CapOk v) (hf : fewB L 60 = true) (hlen : L.length = 0) : Calls Try.prog 7 #[v] w fun e w' => e = .returned (.bool true) ∧ Below w.heap.size w w' := by
  have HR0 := Lib.hid h
  obtain ⟨a, cap, rfl, hm, -⟩ := h
  unfold maxLen at hm
  have HCP := Lib.hid (hcap _ _ _ rfl)
  clear hcap
  replace hf := Lib.hid hf
  replace hlen := Lib.hid hlen
  have HB0 := Lib.hid (Below.refl w.heap.size w)
  go_enter Try.func7, Try.ntmps7
  go_wp2_with fail
  refine (head_any _).mono ?_
  rintro e u1 ⟨rfl, b1⟩
  have FR_1 := Lib.hid (HR0.out.step b1)
  clear HR0
  have HB2 := Lib.hid (keep2 b1 HB0.out)
  clear HB0 b1
  go_wp2_with fail
  refine (few_any _ L 60 _ FR_1.out).mono ?_
  rintro e w' ⟨rfl, rfl⟩
  rw [hf.out]
  have z1 : ((L.length : Int) == 0) = true := by simp; exact List.length_eq_zero_iff.1 hlen.out
  go_wp2
  go_ret
  exact ⟨rfl, HB2.out⟩
set_option maxRecDepth 100000 in
set_option maxHeartbeats 8000000 in
theorem trees_one (v : Value) (L : List (List Int)) (w : World) (h : RowsAt w v L) (hcap : CapOk v) (hf : fewB L 60 = true) (hlen : L.length = 1) : Calls Try.prog 7 #[v] w fun e w' => e = .returned (.bool true) ∧ Below w.heap.size w w' := by
  have HR0 := Lib.hid h
  obtain ⟨a, cap, rfl, hm, -⟩ := h
  unfold maxLen at hm
  have HCP := Lib.hid (hcap _ _ _ rfl)
  clear hcap
  replace hf := Lib.hid hf
  replace hlen := Lib.hid hlen
  have HB0 := Lib.hid (Below.refl w.heap.size w)
  go_enter Try.func7, Try.ntmps7
  go_wp2_with fail
  refine (head_any _).mono ?_
  rintro e u1 ⟨rfl, b1⟩
  have FR_1 := Lib.hid (HR0.out.step b1)
  clear HR0
  have HB2 := Lib.hid (keep2 b1 HB0.out)
  clear HB0 b1
  go_wp2_with fail
  refine (few_any _ L 60 _ FR_1.out).mono ?_
  rintro e w' ⟨rfl, rfl⟩
  rw [hf.out]
  have z1 : ((L.length : Int) == 0) = false := by simp; intro e; have := hlen.out; rw [e] at this; simp at this
  have z3 : ((L.length : Int) = 0) = False := by simp; intro e; have := hlen.out; rw [e] at this; simp at this
  have z2 : ((L.length : Int) == 1) = true := by simp; have := hlen.out; omega
  have z4 : ((L.length : Int) = 1) = True := by simp; have := hlen.out; omega
  clear hm
  have HF := Lib.hid (leaf_facts hlen.out)
  obtain ⟨a2, cap2, hva, -, hcs⟩ := FR_1.out
  obtain ⟨rfl, rfl⟩ : a = a2 ∧ cap = cap2 := by simpa using hva
  obtain ⟨b, off, rfl, hcs2⟩ := hcs (by intro h; have := hlen.out; rw [h] at this; simp at this)
  obtain ⟨u, x0, hu⟩ := hcs2 0 _ (rows_get (by have := hlen.out; omega))
  clear hcs hcs2 hva
  generalize L.getD 0 [] = x at *
  have FU_3 := Lib.hid (hu)
  obtain ⟨ua, uc, rfl, -, -⟩ := hu
  rw [Nat.add_zero] at x0
  have X0 := Lib.hid x0
  clear x0
  obtain ⟨d, hd⟩ : ∃ d, Dg x = d := ⟨_, rfl⟩
  obtain ⟨rt, hrt⟩ : ∃ r, rtL L = r := ⟨_, rfl⟩
  rw [hd, hrt] at HF
  replace hd := Lib.hid hd
  replace hrt := Lib.hid hrt
  go_wp2_with fail
  obtain ⟨lit, hlit⟩ : ∃ lit : (Nat → Value) → Act, lit = fun vs => { tmps := List.toArray (Value.slice (some { block := b, off := off }) L.length cap :: undef :: vs 12 :: Value.bool true :: undef :: Value.bool true :: Value.slice (some { block := b, off := off }) L.length cap :: Value.bool true :: Value.bool false :: Value.bool false :: Value.slice (some { block := b, off := off }) L.length cap :: Value.int IntKind.i64 (L.length : Int) :: Value.bool false :: Value.bool false :: undef :: Value.slice (some { block := b, off := off }) L.length cap :: Value.int IntKind.i64 (L.length : Int) :: Value.bool true :: vs 0 :: vs 1 :: vs 2 :: vs 3 :: vs 4 :: vs 5 :: vs 6 :: vs 7 :: vs 8 :: vs 9 :: vs 10 :: vs 11 :: undef :: undef :: undef :: undef :: undef :: undef :: undef :: undef :: undef :: undef :: undef :: undef :: undef :: undef :: undef :: undef :: undef :: undef :: undef :: undef :: undef :: undef :: undef :: []), defers := [] } := ⟨_, rfl⟩
  have HLIT := Lib.hid hlit
  clear hlit
  obtain ⟨val, hval⟩ : ∃ val : List Value, val = [.bool true, .bool true, .slice (some ⟨b, off, none⟩) L.length cap, .int .i64 rt, .slice (some ⟨b, off, none⟩) L.length cap, .pointer (some ⟨b, off, none⟩), .slice ua x.length uc, .int .i64 d, undef, .int .i64 rt, .bool true, .bool true, .bool true] := ⟨_, rfl⟩
  have E0 := Lib.hid (show val.getD 0 undef = .bool true by rw [hval]; rfl)
  have E1 := Lib.hid (show val.getD 1 undef = .bool true by rw [hval]; rfl)
  have E2 := Lib.hid (show val.getD 2 undef = .slice (some ⟨b, off, none⟩) L.length cap by rw [hval]; rfl)
  have E3 := Lib.hid (show val.getD 3 undef = .int .i64 rt by rw [hval]; rfl)
  have E4 := Lib.hid (show val.getD 4 undef = .slice (some ⟨b, off, none⟩) L.length cap by rw [hval]; rfl)
  have E5 := Lib.hid (show val.getD 5 undef = .pointer (some ⟨b, off, none⟩) by rw [hval]; rfl)
  have E6 := Lib.hid (show val.getD 6 undef = .slice ua x.length uc by rw [hval]; rfl)
  have E7 := Lib.hid (show val.getD 7 undef = .int .i64 d by rw [hval]; rfl)
  have E9 := Lib.hid (show val.getD 9 undef = .int .i64 rt by rw [hval]; rfl)
  have E10 := Lib.hid (show val.getD 10 undef = .bool true by rw [hval]; rfl)
  have E11 := Lib.hid (show val.getD 11 undef = .bool true by rw [hval]; rfl)
  have E12 := Lib.hid (show val.getD 12 undef = .bool true by rw [hval]; rfl)
  clear hval
  obtain ⟨G, hG0⟩ : ∃ G : Nat → Value → World → Prop, G = (fun i v w => (i = 8 → ∃ gg, v = .slice (some ⟨gg, 0, none⟩) 2 2 ∧ IntsAt w v [0, d]) ∧ (i ≠ 8 → v = val.getD i undef)) := ⟨_, rfl⟩
  have HG := Lib.hid hG0
  clear hG0
  refine region_inv (RS lit u1 G) (by kernel_rfl) (by decide +kernel) ?_ ?_ ?_
  · exact ⟨fun i => ([undef, undef, undef, undef, undef, undef, undef, undef, undef, undef, undef, undef, Value.bool false] : List Value).getD i undef, (by rw [HLIT.out]; rfl), below_drew _ _, fun i h => by cases h⟩
  · refine ⟨?_, ?_, ?_, ?_, ?_, ?_, ?_, ?_, ?_, ?_, ?_, ?_, ?_, trivial⟩
    · intro bf ac wv hfb haf hJ K' hK
      obtain ⟨vs, rfl, hM, j4⟩ := hJ
      replace hK := Lib.hid hK
      replace hM := Lib.hid hM
      rw [HG.out] at j4
      replace j4 := Lib.hid j4
      clear haf hfb
      rw [HLIT.out]
      go_simp
      exact hK.out _ _ (RS.next (wv := wv) (vs := vs) 0 (x := .bool true) (by rw [HLIT.out]; rfl) (by rw [HG.out]; exact j4.out) hM.out (by rw [HG.out]; exact fun _ _ h => h) (by rw [HG.out]; exact ⟨fun h => absurd h (by decide), fun _ => E0.out.symm⟩))
    · intro bf ac wv hfb haf hJ K' hK
      obtain ⟨vs, rfl, hM, j4⟩ := hJ
      replace hK := Lib.hid hK
      replace hM := Lib.hid hM
      rw [HG.out] at j4
      simp [Region.binds] at haf
      have e0 := ((j4 0 (by simp [haf])).2 (by decide)).trans E0.out
      replace j4 := Lib.hid j4
      clear haf hfb
      rw [HLIT.out]
      go_simp
      exact hK.out _ _ (RS.next (wv := wv) (vs := vs) 1 (x := .bool true) (by rw [HLIT.out]; simp only [upv, e0, Nat.reduceBEq, cond_true, cond_false]) (by rw [HG.out]; exact j4.out) hM.out (by rw [HG.out]; exact fun _ _ h => h) (by rw [HG.out]; exact ⟨fun h => absurd h (by decide), fun _ => E1.out.symm⟩))
    · intro bf ac wv hfb haf hJ K' hK
      obtain ⟨vs, rfl, hM, j4⟩ := hJ
      replace hK := Lib.hid hK
      replace hM := Lib.hid hM
      rw [HG.out] at j4
      simp [Region.binds] at haf
      have e1 := ((j4 1 (by simp [haf])).2 (by decide)).trans E1.out
      replace j4 := Lib.hid j4
      clear haf hfb
      rw [HLIT.out]
      go_simp
      exact hK.out _ _ (RS.next (wv := wv) (vs := vs) 2 (x := .slice (some ⟨b, off, none⟩) L.length cap) (by rw [HLIT.out]; simp only [upv, e1, Nat.reduceBEq, cond_true, cond_false]) (by rw [HG.out]; exact j4.out) hM.out (by rw [HG.out]; exact fun _ _ h => h) (by rw [HG.out]; exact ⟨fun h => absurd h (by decide), fun _ => E2.out.symm⟩))
    · intro bf ac wv hfb haf hJ K' hK
      obtain ⟨vs, rfl, hM, j4⟩ := hJ
      replace hK := Lib.hid hK
      replace hM := Lib.hid hM
      rw [HG.out] at j4
      simp [Region.binds] at haf
      have e1 := ((j4 1 (by simp [haf])).2 (by decide)).trans E1.out
      have e2 := ((j4 2 (by simp [haf])).2 (by decide)).trans E2.out
      replace j4 := Lib.hid j4
      clear haf hfb
      rw [HLIT.out]
      go_simp
      go_at_call 23
      refine (root_any _ L _ (FR_1.out.step hM.out)).mono ?_
      rintro e w4 ⟨rfl, b4⟩
      rw [hrt.out]
      exact hK.out _ _ (RS.next (wv := wv) (vs := vs) 3 (x := .int .i64 rt) (by rw [HLIT.out]; simp only [upv, e1, e2, Nat.reduceBEq, cond_true, cond_false]) (by rw [HG.out]; exact j4.out) (keep2 b4 hM.out) (by rw [HG.out]; exact fun k v h => ⟨fun q => (h.1 q).imp fun gg q2 => ⟨q2.1, q2.2.step b4⟩, h.2⟩) (by rw [HG.out]; exact ⟨fun h => absurd h (by decide), fun _ => E3.out.symm⟩))
    · intro bf ac wv hfb haf hJ K' hK
      obtain ⟨vs, rfl, hM, j4⟩ := hJ
      replace hK := Lib.hid hK
      replace hM := Lib.hid hM
      rw [HG.out] at j4
      simp [Region.binds] at haf
      have e1 := ((j4 1 (by simp [haf])).2 (by decide)).trans E1.out
      replace j4 := Lib.hid j4
      clear haf hfb
      rw [HLIT.out]
      go_simp
      exact hK.out _ _ (RS.next (wv := wv) (vs := vs) 4 (x := .slice (some ⟨b, off, none⟩) L.length cap) (by rw [HLIT.out]; simp only [upv, e1, Nat.reduceBEq, cond_true, cond_false]) (by rw [HG.out]; exact j4.out) hM.out (by rw [HG.out]; exact fun _ _ h => h) (by rw [HG.out]; exact ⟨fun h => absurd h (by decide), fun _ => E4.out.symm⟩))
    · intro bf ac wv hfb haf hJ K' hK
      obtain ⟨vs, rfl, hM, j4⟩ := hJ
      replace hK := Lib.hid hK
      replace hM := Lib.hid hM
      rw [HG.out] at j4
      simp [Region.binds] at haf
      have e1 := ((j4 1 (by simp [haf])).2 (by decide)).trans E1.out
      have e4 := ((j4 4 (by simp [haf])).2 (by decide)).trans E4.out
      replace j4 := Lib.hid j4
      clear haf hfb
      have hl1 : (0 : Int) < L.length := by have := hlen.out; omega
      have hl2 : 0 < L.length := by have := hlen.out; omega
      have hl3 : ¬ L = [] := by intro h; rw [h] at hl2; simp at hl2
      rw [HLIT.out]
      go_simp
      exact hK.out _ _ (RS.next (wv := wv) (vs := vs) 5 (x := .pointer (some ⟨b, off, none⟩)) (by rw [HLIT.out]; simp only [upv, e1, e4, Nat.reduceBEq, cond_true, cond_false]) (by rw [HG.out]; exact j4.out) hM.out (by rw [HG.out]; exact fun _ _ h => h) (by rw [HG.out]; exact ⟨fun h => absurd h (by decide), fun _ => E5.out.symm⟩))
    · intro bf ac wv hfb haf hJ K' hK
      obtain ⟨vs, rfl, hM, j4⟩ := hJ
      replace hK := Lib.hid hK
      replace hM := Lib.hid hM
      rw [HG.out] at j4
      simp [Region.binds] at haf
      have e1 := ((j4 1 (by simp [haf])).2 (by decide)).trans E1.out
      have e5 := ((j4 5 (by simp [haf])).2 (by decide)).trans E5.out
      replace j4 := Lib.hid j4
      clear haf hfb
      have xg := keep1 hM.out X0.out
      have xgz := World.block_lt_of_cell? _ _ xg
      have xgz : b < wv.heap.size := xgz
      rw [HLIT.out]
      go_simp
      exact hK.out _ _ (RS.next (wv := wv) (vs := vs) 6 (x := .slice ua x.length uc) (by rw [HLIT.out]; simp only [upv, e1, e5, Nat.reduceBEq, cond_true, cond_false]) (by rw [HG.out]; exact j4.out) hM.out (by rw [HG.out]; exact fun _ _ h => h) (by rw [HG.out]; exact ⟨fun h => absurd h (by decide), fun _ => E6.out.symm⟩))
    · intro bf ac wv hfb haf hJ K' hK
      obtain ⟨vs, rfl, hM, j4⟩ := hJ
      replace hK := Lib.hid hK
      replace hM := Lib.hid hM
      rw [HG.out] at j4
      simp [Region.binds] at haf
      have e1 := ((j4 1 (by simp [haf])).2 (by decide)).trans E1.out
      have e6 := ((j4 6 (by simp [haf])).2 (by decide)).trans E6.out
      replace j4 := Lib.hid j4
      clear haf hfb
      rw [HLIT.out]
      go_simp
      go_at_call 15
      refine (sum_any _ x _ (FU_3.out.step hM.out)).mono ?_
      rintro e w4 ⟨rfl, rfl⟩
      have b4 := Below.refl wv.heap.size wv
      rw [hd.out]
      exact hK.out _ _ (RS.next (wv := wv) (vs := vs) 7 (x := .int .i64 d) (by rw [HLIT.out]; simp only [upv, e1, e6, Nat.reduceBEq, cond_true, cond_false]) (by rw [HG.out]; exact j4.out) (keep2 b4 hM.out) (by rw [HG.out]; exact fun k v h => ⟨fun q => (h.1 q).imp fun gg q2 => ⟨q2.1, q2.2.step b4⟩, h.2⟩) (by rw [HG.out]; exact ⟨fun h => absurd h (by decide), fun _ => E7.out.symm⟩))
    · intro bf ac wv hfb haf hJ K' hK
      obtain ⟨vs, rfl, hM, j4⟩ := hJ
      replace hK := Lib.hid hK
      replace hM := Lib.hid hM
      rw [HG.out] at j4
      simp [Region.binds] at haf
      have e1 := ((j4 1 (by simp [haf])).2 (by decide)).trans E1.out
      have e7 := ((j4 7 (by simp [haf])).2 (by decide)).trans E7.out
      replace j4 := Lib.hid j4
      clear haf hfb
      rw [HLIT.out]
      go_simp
      have b4 := al wv (.cells #[.int .i64 0, .int .i64 d] 3)
      exact hK.out _ _ (RS.next (wv := wv) (vs := vs) 8 (x := .slice (some ⟨wv.heap.size, 0, none⟩) 2 2) (by rw [HLIT.out]; simp only [upv, e1, e7, Nat.reduceBEq, cond_true, cond_false]) (by rw [HG.out]; exact j4.out) (keep2 b4 hM.out) (by rw [HG.out]; exact fun k v h => ⟨fun q => (h.1 q).imp fun gg q2 => ⟨q2.1, q2.2.step b4⟩, h.2⟩) (by rw [HG.out]; exact ⟨fun _ => ⟨wv.heap.size, rfl, ints_lit wv [0, d] _ 3 rfl (by simp) 2 rfl _ rfl⟩, fun h8 => absurd rfl h8⟩))
    · intro bf ac wv hfb haf hJ K' hK
      obtain ⟨vs, rfl, hM, j4⟩ := hJ
      replace hK := Lib.hid hK
      replace hM := Lib.hid hM
      rw [HG.out] at j4
      simp [Region.binds] at haf
      have e1 := ((j4 1 (by simp [haf])).2 (by decide)).trans E1.out
      have e8 := (j4 8 (by simp [haf])).1 rfl
      replace j4 := Lib.hid j4
      clear haf hfb
      obtain ⟨gg, e8, hgi⟩ := e8
      rw [e8] at hgi
      rw [HLIT.out]
      go_simp
      go_at_call 15
      refine (sum_any _ [0, d] _ hgi).mono ?_
      rintro e w4 ⟨rfl, rfl⟩
      have b4 := Below.refl wv.heap.size wv
      rw [show Dg [0, d] = rt from HF.out.symm]
      exact hK.out _ _ (RS.next (wv := wv) (vs := vs) 9 (x := .int .i64 rt) (by rw [HLIT.out]; simp only [upv, e1, e8, Nat.reduceBEq, cond_true, cond_false]) (by rw [HG.out]; exact j4.out) (keep2 b4 hM.out) (by rw [HG.out]; exact fun k v h => ⟨fun q => (h.1 q).imp fun gg q2 => ⟨q2.1, q2.2.step b4⟩, h.2⟩) (by rw [HG.out]; exact ⟨fun h => absurd h (by decide), fun _ => E9.out.symm⟩))
    · intro bf ac wv hfb haf hJ K' hK
      obtain ⟨vs, rfl, hM, j4⟩ := hJ
      replace hK := Lib.hid hK
      replace hM := Lib.hid hM
      rw [HG.out] at j4
      simp [Region.binds] at haf
      have e1 := ((j4 1 (by simp [haf])).2 (by decide)).trans E1.out
      have e3 := ((j4 3 (by simp [haf])).2 (by decide)).trans E3.out
      have e9 := ((j4 9 (by simp [haf])).2 (by decide)).trans E9.out
      replace j4 := Lib.hid j4
      clear haf hfb
      rw [HLIT.out]
      go_simp
      exact hK.out _ _ (RS.next (wv := wv) (vs := vs) 10 (x := .bool true) (by rw [HLIT.out]; simp only [upv, e1, e3, e9, Nat.reduceBEq, cond_true, cond_false]) (by rw [HG.out]; exact j4.out) hM.out (by rw [HG.out]; exact fun _ _ h => h) (by rw [HG.out]; exact ⟨fun h => absurd h (by decide), fun _ => E10.out.symm⟩))
    · intro bf ac wv hfb haf hJ K' hK
      obtain ⟨vs, rfl, hM, j4⟩ := hJ
      replace hK := Lib.hid hK
      replace hM := Lib.hid hM
      rw [HG.out] at j4
      simp [Region.binds] at haf
      have e1 := ((j4 1 (by simp [haf])).2 (by decide)).trans E1.out
      have e10 := ((j4 10 (by simp [haf])).2 (by decide)).trans E10.out
      replace j4 := Lib.hid j4
      clear haf hfb
      rw [HLIT.out]
      go_simp
      exact hK.out _ _ (RS.next (wv := wv) (vs := vs) 11 (x := .bool true) (by rw [HLIT.out]; simp only [upv, e1, e10, Nat.reduceBEq, cond_true, cond_false]) (by rw [HG.out]; exact j4.out) hM.out (by rw [HG.out]; exact fun _ _ h => h) (by rw [HG.out]; exact ⟨fun h => absurd h (by decide), fun _ => E11.out.symm⟩))
    · intro bf ac wv hfb haf hJ K' hK
      obtain ⟨vs, rfl, hM, j4⟩ := hJ
      replace hK := Lib.hid hK
      replace hM := Lib.hid hM
      rw [HG.out] at j4
      simp [Region.binds] at haf
      have e11 := ((j4 11 (by simp [haf])).2 (by decide)).trans E11.out
      replace j4 := Lib.hid j4
      clear haf hfb
      rw [HLIT.out]
      go_simp
      exact hK.out _ _ (RS.next (wv := wv) (vs := vs) 12 (x := .bool true) (by rw [HLIT.out]; simp only [upv, e11, Nat.reduceBEq, cond_true, cond_false]) (by rw [HG.out]; exact j4.out) hM.out (by rw [HG.out]; exact fun _ _ h => h) (by rw [HG.out]; exact ⟨fun h => absurd h (by decide), fun _ => E12.out.symm⟩))
  · intro bf ac wv hall hJ
    obtain ⟨vs, rfl, hM, j4⟩ := hJ
    rw [HG.out] at j4
    have e12 := ((j4 12 (hall 12 (by decide))).2 (by decide)).trans E12.out
    have HB9 := Lib.hid (keep2 hM HB2.out)
    clear hM hall j4
    rw [HLIT.out]
    dsimp only
    rw [e12]
    clear e12
    go_wp2
    go_ret
    exact ⟨rfl, HB9.out⟩
set_option maxRecDepth 100000 in
set_option maxHeartbeats 8000000 in
theorem trees_more (v : Value) (L : List (List Int)) (w : World) (h : RowsAt w v L) (hcap : CapOk v) (hf : fewB L 60 = true) (hlen : 1 < L.length) : Calls Try.prog 7 #[v] w fun e w' => e = .returned (.bool true) ∧ Below w.heap.size w w' := by
  have HR0 := Lib.hid h
  obtain ⟨a, cap, rfl, hm, -⟩ := h
  unfold maxLen at hm
  have HCP := Lib.hid (hcap _ _ _ rfl)
  clear hcap
  replace hf := Lib.hid hf
  replace hlen := Lib.hid hlen
  have HB0 := Lib.hid (Below.refl w.heap.size w)
  go_enter Try.func7, Try.ntmps7
  go_wp2_with fail
  refine (head_any _).mono ?_
  rintro e u1 ⟨rfl, b1⟩
  have FR_1 := Lib.hid (HR0.out.step b1)
  clear HR0
  have HB2 := Lib.hid (keep2 b1 HB0.out)
  clear HB0 b1
  go_wp2_with fail
  refine (few_any _ L 60 _ FR_1.out).mono ?_
  rintro e w' ⟨rfl, rfl⟩
  rw [hf.out]
  have z1 : ((L.length : Int) == 0) = false := by simp; intro e; have := hlen.out; rw [e] at this; simp at this
  have z3 : ((L.length : Int) = 0) = False := by simp; intro e; have := hlen.out; rw [e] at this; simp at this
  have z2 : ((L.length : Int) == 1) = false := by simp; have := hlen.out; omega
  have z4 : ((L.length : Int) = 1) = False := by simp; have := hlen.out; omega
  have HF := Lib.hid (few_len hf.out)
  clear hm
  go_wp2_with fail
  have h60 := Lib.hid (show L.length ≤ 60 by have := HF.out.1; omega)
  clear z1 z2 z3 z4
  go_loopw [4] (fun nv wr => ∃ m : Nat, nv = .int .i64 m ∧ Hid (m < L.length ∧ ∃ k, m = 2 ^ k) ∧ wr = u1) (fun nv _ => L.length - (intOf nv).toNat)
  case atStart => exact ⟨1, rfl, Lib.hid ⟨by have := hlen.out; omega, 0, rfl⟩, rfl⟩
  case round =>
    obtain ⟨m, rfl, HM, hwr⟩ := hrel
    have hm9 : m ≤ 60 := by have := HM.out.1; have := h60.out; omega
    have t3 : wrap64 (2 * (m : Int)) = 2 * m := IntWalk.wrap64_in _ (by omega)
    by_cases hlt : 2 * m < L.length
    · subst hwr
      have t1 : decide (2 * (m : Int) < L.length) = true := by simp; omega
      have t2 : (2 * (m : Int) < L.length) = True := by simp; omega
      replace hlt := Lib.hid hlt
      go_wp2
      go_roundw
      case rel =>
        refine ⟨2 * m, by go_num, Lib.hid ⟨hlt.out, ?_⟩, trivial⟩
        obtain ⟨k, hk⟩ := HM.out.2
        exact ⟨k + 1, by rw [Nat.pow_succ, ← hk, Nat.mul_comm]⟩
      case measure =>
        have := hlt.out
        have h1 : 1 ≤ m := by
          obtain ⟨k, hk⟩ := HM.out.2
          rw [hk]
          exact Nat.one_le_two_pow
        have e1 : (2 * (m : Int)).toNat = 2 * m := by omega
        simp [intOf, e1]; omega
    · have t1 : decide (2 * (m : Int) < L.length) = false := by simp; omega
      have t2 : (2 * (m : Int) < L.length) = False := by simp; omega
      have HT := Lib.hid (show rtL L = Dg [1, rtL (L.take m), rtL (L.drop m)] by
        obtain ⟨k, hk⟩ := HM.out.2
        have := HM.out.1
        rw [hk] at this hlt ⊢
        exact tree_facts h60.out this (by omega))
      have hml := Lib.hid HM.out.1
      subst hwr
      clear HM hlt
      obtain ⟨a2, cap2, hva, -, hcs⟩ := FR_1.out
      obtain ⟨rfl, rfl⟩ : a = a2 ∧ cap = cap2 := by simpa using hva
      obtain ⟨b, off, rfl, -⟩ := hcs (by intro h; have := hlen.out; rw [h] at this; simp at this)
      clear hcs hva
      have R1 := Lib.hid (rows_take FR_1.out (Nat.le_of_lt hml.out))
      have R2 := Lib.hid (rows_drop FR_1.out hml.out)
      obtain ⟨rt, hrt⟩ : ∃ r, rtL L = r := ⟨_, rfl⟩
      obtain ⟨r1, hr1⟩ : ∃ r, rtL (L.take m) = r := ⟨_, rfl⟩
      obtain ⟨r2, hr2⟩ : ∃ r, rtL (L.drop m) = r := ⟨_, rfl⟩
      rw [hrt, hr1, hr2] at HT
      replace hrt := Lib.hid hrt
      replace hr1 := Lib.hid hr1
      replace hr2 := Lib.hid hr2
      go_wp2_with fail
      obtain ⟨lit, hlit⟩ : ∃ lit : (Nat → Value) → Act, lit = fun vs => { tmps := List.toArray (Value.slice (some { block := b, off := off }) L.length cap :: undef :: vs 16 :: Value.bool true :: Value.int IntKind.i64 (m : Int) :: Value.bool true :: Value.slice (some { block := b, off := off }) L.length cap :: Value.bool true :: Value.bool false :: Value.bool false :: Value.slice (some { block := b, off := off }) L.length cap :: Value.int IntKind.i64 (L.length : Int) :: Value.bool false :: Value.bool false :: undef :: Value.slice (some { block := b, off := off }) L.length cap :: Value.int IntKind.i64 (L.length : Int) :: Value.bool false :: undef :: undef :: undef :: undef :: undef :: undef :: undef :: undef :: undef :: undef :: undef :: undef :: Value.int IntKind.i64 (m : Int) :: Value.int IntKind.i64 (2 * (m : Int)) :: Value.slice (some { block := b, off := off }) L.length cap :: Value.int IntKind.i64 (L.length : Int) :: Value.bool false :: u35 :: u36 :: vs 0 :: vs 1 :: vs 2 :: vs 3 :: vs 4 :: vs 5 :: vs 6 :: vs 7 :: vs 8 :: vs 9 :: vs 10 :: vs 11 :: vs 12 :: vs 13 :: vs 14 :: vs 15 :: []), defers := [] } := ⟨_, rfl⟩
      have HLIT := Lib.hid hlit
      clear hlit
      obtain ⟨val, hval⟩ : ∃ val : List Value, val = [.bool true, .bool true, .slice (some ⟨b, off, none⟩) L.length cap, .int .i64 rt, .slice (some ⟨b, off, none⟩) L.length cap, .int .i64 m, .slice (some ⟨b, off, none⟩) m cap, .int .i64 r1, .slice (some ⟨b, off, none⟩) L.length cap, .int .i64 m, .slice (some ⟨b, off + m, none⟩) (L.length - m) (cap - m), .int .i64 r2, undef, .int .i64 rt, .bool true, .bool true, .bool true] := ⟨_, rfl⟩
      have E0 := Lib.hid (show val.getD 0 undef = .bool true by rw [hval]; rfl)
      have E1 := Lib.hid (show val.getD 1 undef = .bool true by rw [hval]; rfl)
      have E2 := Lib.hid (show val.getD 2 undef = .slice (some ⟨b, off, none⟩) L.length cap by rw [hval]; rfl)
      have E3 := Lib.hid (show val.getD 3 undef = .int .i64 rt by rw [hval]; rfl)
      have E4 := Lib.hid (show val.getD 4 undef = .slice (some ⟨b, off, none⟩) L.length cap by rw [hval]; rfl)
      have E5 := Lib.hid (show val.getD 5 undef = .int .i64 m by rw [hval]; rfl)
      have E6 := Lib.hid (show val.getD 6 undef = .slice (some ⟨b, off, none⟩) m cap by rw [hval]; rfl)
      have E7 := Lib.hid (show val.getD 7 undef = .int .i64 r1 by rw [hval]; rfl)
      have E8 := Lib.hid (show val.getD 8 undef = .slice (some ⟨b, off, none⟩) L.length cap by rw [hval]; rfl)
      have E9 := Lib.hid (show val.getD 9 undef = .int .i64 m by rw [hval]; rfl)
      have E10 := Lib.hid (show val.getD 10 undef = .slice (some ⟨b, off + m, none⟩) (L.length - m) (cap - m) by rw [hval]; rfl)
      have E11 := Lib.hid (show val.getD 11 undef = .int .i64 r2 by rw [hval]; rfl)
      have E13 := Lib.hid (show val.getD 13 undef = .int .i64 rt by rw [hval]; rfl)
      have E14 := Lib.hid (show val.getD 14 undef = .bool true by rw [hval]; rfl)
      have E15 := Lib.hid (show val.getD 15 undef = .bool true by rw [hval]; rfl)
      have E16 := Lib.hid (show val.getD 16 undef = .bool true by rw [hval]; rfl)
      clear hval
      obtain ⟨G, hG0⟩ : ∃ G : Nat → Value → World → Prop, G = (fun i v w => (i = 12 → ∃ gg, v = .slice (some ⟨gg, 0, none⟩) 3 3 ∧ IntsAt w v [1, r1, r2]) ∧ (i ≠ 12 → v = val.getD i undef)) := ⟨_, rfl⟩
      have HG := Lib.hid hG0
      clear hG0
      refine region_inv (RS lit wr G) (by kernel_rfl) (by decide +kernel) ?_ ?_ ?_
      · exact ⟨fun i => ([undef, undef, undef, undef, undef, undef, undef, undef, undef, undef, undef, undef, undef, undef, undef, undef, Value.bool false] : List Value).getD i undef, (by rw [HLIT.out]; rfl), below_drew _ _, fun i h => by cases h⟩
      · refine ⟨?_, ?_, ?_, ?_, ?_, ?_, ?_, ?_, ?_, ?_, ?_, ?_, ?_, ?_, ?_, ?_, ?_, trivial⟩
        · intro bf ac wv hfb haf hJ K' hK
          obtain ⟨vs, rfl, hM, j4⟩ := hJ
          replace hK := Lib.hid hK
          replace hM := Lib.hid hM
          rw [HG.out] at j4
          replace j4 := Lib.hid j4
          clear haf hfb
          rw [HLIT.out]
          go_simp
          exact hK.out _ _ (RS.next (wv := wv) (vs := vs) 0 (x := .bool true) (by rw [HLIT.out]; rfl) (by rw [HG.out]; exact j4.out) hM.out (by rw [HG.out]; exact fun _ _ h => h) (by rw [HG.out]; exact ⟨fun h => absurd h (by decide), fun _ => E0.out.symm⟩))
        · intro bf ac wv hfb haf hJ K' hK
          obtain ⟨vs, rfl, hM, j4⟩ := hJ
          replace hK := Lib.hid hK
          replace hM := Lib.hid hM
          rw [HG.out] at j4
          simp [Region.binds] at haf
          have e0 := ((j4 0 (by simp [haf])).2 (by decide)).trans E0.out
          replace j4 := Lib.hid j4
          clear haf hfb
          rw [HLIT.out]
          go_simp
          exact hK.out _ _ (RS.next (wv := wv) (vs := vs) 1 (x := .bool true) (by rw [HLIT.out]; simp only [upv, e0, Nat.reduceBEq, cond_true, cond_false]) (by rw [HG.out]; exact j4.out) hM.out (by rw [HG.out]; exact fun _ _ h => h) (by rw [HG.out]; exact ⟨fun h => absurd h (by decide), fun _ => E1.out.symm⟩))
        · intro bf ac wv hfb haf hJ K' hK
          obtain ⟨vs, rfl, hM, j4⟩ := hJ
          replace hK := Lib.hid hK
          replace hM := Lib.hid hM
          rw [HG.out] at j4
          simp [Region.binds] at haf
          have e1 := ((j4 1 (by simp [haf])).2 (by decide)).trans E1.out
          replace j4 := Lib.hid j4
          clear haf hfb
          rw [HLIT.out]
          go_simp
          exact hK.out _ _ (RS.next (wv := wv) (vs := vs) 2 (x := .slice (some ⟨b, off, none⟩) L.length cap) (by rw [HLIT.out]; simp only [upv, e1, Nat.reduceBEq, cond_true, cond_false]) (by rw [HG.out]; exact j4.out) hM.out (by rw [HG.out]; exact fun _ _ h => h) (by rw [HG.out]; exact ⟨fun h => absurd h (by decide), fun _ => E2.out.symm⟩))
        · intro bf ac wv hfb haf hJ K' hK
          obtain ⟨vs, rfl, hM, j4⟩ := hJ
          replace hK := Lib.hid hK
          replace hM := Lib.hid hM
          rw [HG.out] at j4
          simp [Region.binds] at haf
          have e1 := ((j4 1 (by simp [haf])).2 (by decide)).trans E1.out
          have e2 := ((j4 2 (by simp [haf])).2 (by decide)).trans E2.out
          replace j4 := Lib.hid j4
          clear haf hfb
          rw [HLIT.out]
          go_simp
          go_at_call 23
          refine (root_any _ L _ (FR_1.out.step hM.out)).mono ?_
          rintro e w4 ⟨rfl, b4⟩
          rw [hrt.out]
          exact hK.out _ _ (RS.next (wv := wv) (vs := vs) 3 (x := .int .i64 rt) (by rw [HLIT.out]; simp only [upv, e1, e2, Nat.reduceBEq, cond_true, cond_false]) (by rw [HG.out]; exact j4.out) (keep2 b4 hM.out) (by rw [HG.out]; exact fun k v h => ⟨fun q => (h.1 q).imp fun gg q2 => ⟨q2.1, q2.2.step b4⟩, h.2⟩) (by rw [HG.out]; exact ⟨fun h => absurd h (by decide), fun _ => E3.out.symm⟩))
        · intro bf ac wv hfb haf hJ K' hK
          obtain ⟨vs, rfl, hM, j4⟩ := hJ
          replace hK := Lib.hid hK
          replace hM := Lib.hid hM
          rw [HG.out] at j4
          simp [Region.binds] at haf
          have e1 := ((j4 1 (by simp [haf])).2 (by decide)).trans E1.out
          replace j4 := Lib.hid j4
          clear haf hfb
          rw [HLIT.out]
          go_simp
          exact hK.out _ _ (RS.next (wv := wv) (vs := vs) 4 (x := .slice (some ⟨b, off, none⟩) L.length cap) (by rw [HLIT.out]; simp only [upv, e1, Nat.reduceBEq, cond_true, cond_false]) (by rw [HG.out]; exact j4.out) hM.out (by rw [HG.out]; exact fun _ _ h => h) (by rw [HG.out]; exact ⟨fun h => absurd h (by decide), fun _ => E4.out.symm⟩))
        · intro bf ac wv hfb haf hJ K' hK
          obtain ⟨vs, rfl, hM, j4⟩ := hJ
          replace hK := Lib.hid hK
          replace hM := Lib.hid hM
          rw [HG.out] at j4
          simp [Region.binds] at haf
          have e1 := ((j4 1 (by simp [haf])).2 (by decide)).trans E1.out
          replace j4 := Lib.hid j4
          clear haf hfb
          rw [HLIT.out]
          go_simp
          exact hK.out _ _ (RS.next (wv := wv) (vs := vs) 5 (x := .int .i64 m) (by rw [HLIT.out]; simp only [upv, e1, Nat.reduceBEq, cond_true, cond_false]) (by rw [HG.out]; exact j4.out) hM.out (by rw [HG.out]; exact fun _ _ h => h) (by rw [HG.out]; exact ⟨fun h => absurd h (by decide), fun _ => E5.out.symm⟩))
        · intro bf ac wv hfb haf hJ K' hK
          obtain ⟨vs, rfl, hM, j4⟩ := hJ
          replace hK := Lib.hid hK
          replace hM := Lib.hid hM
          rw [HG.out] at j4
          simp [Region.binds] at haf
          have e1 := ((j4 1 (by simp [haf])).2 (by decide)).trans E1.out
          have e4 := ((j4 4 (by simp [haf])).2 (by decide)).trans E4.out
          have e5 := ((j4 5 (by simp [haf])).2 (by decide)).trans E5.out
          replace j4 := Lib.hid j4
          clear haf hfb
          have hn1 : m < L.length := hml.out
          have hn2 : L.length ≤ cap := HCP.out
          have hnz : ¬ (cap = m) := by omega
          have hn3 : (0 : Int) ≤ (m : Int) := by omega
          have hn4 : (m : Int) ≤ (cap : Int) := by omega
          have hn5 : (m : Int) ≤ (L.length : Int) := by omega
          have hn6 : (L.length : Int) ≤ (cap : Int) := by omega
          have hn7 : m ≤ cap := by omega
          have hn8 : m ≤ L.length := by omega
          have hn9 : ¬ (cap - m = 0) := by omega
          have hn0 : ((L.length : Int) - (m : Int)).toNat = L.length - m := by omega
          have hnx : ((cap : Int) - (m : Int)).toNat = cap - m := by omega
          rw [HLIT.out]
          go_simp
          exact hK.out _ _ (RS.next (wv := wv) (vs := vs) 6 (x := .slice (some ⟨b, off, none⟩) m cap) (by rw [HLIT.out]; simp only [upv, e1, e4, e5, Nat.reduceBEq, cond_true, cond_false]) (by rw [HG.out]; exact j4.out) hM.out (by rw [HG.out]; exact fun _ _ h => h) (by rw [HG.out]; exact ⟨fun h => absurd h (by decide), fun _ => E6.out.symm⟩))
        · intro bf ac wv hfb haf hJ K' hK
          obtain ⟨vs, rfl, hM, j4⟩ := hJ
          replace hK := Lib.hid hK
          replace hM := Lib.hid hM
          rw [HG.out] at j4
          simp [Region.binds] at haf
          have e1 := ((j4 1 (by simp [haf])).2 (by decide)).trans E1.out
          have e6 := ((j4 6 (by simp [haf])).2 (by decide)).trans E6.out
          replace j4 := Lib.hid j4
          clear haf hfb
          rw [HLIT.out]
          go_simp
          go_at_call 23
          refine (root_any _ (L.take m) _ (R1.out.step hM.out)).mono ?_
          rintro e w4 ⟨rfl, b4⟩
          rw [hr1.out]
          exact hK.out _ _ (RS.next (wv := wv) (vs := vs) 7 (x := .int .i64 r1) (by rw [HLIT.out]; simp only [upv, e1, e6, Nat.reduceBEq, cond_true, cond_false]) (by rw [HG.out]; exact j4.out) (keep2 b4 hM.out) (by rw [HG.out]; exact fun k v h => ⟨fun q => (h.1 q).imp fun gg q2 => ⟨q2.1, q2.2.step b4⟩, h.2⟩) (by rw [HG.out]; exact ⟨fun h => absurd h (by decide), fun _ => E7.out.symm⟩))
        · intro bf ac wv hfb haf hJ K' hK
          obtain ⟨vs, rfl, hM, j4⟩ := hJ
          replace hK := Lib.hid hK
          replace hM := Lib.hid hM
          rw [HG.out] at j4
          simp [Region.binds] at haf
          have e1 := ((j4 1 (by simp [haf])).2 (by decide)).trans E1.out
          replace j4 := Lib.hid j4
          clear haf hfb
          rw [HLIT.out]
          go_simp
          exact hK.out _ _ (RS.next (wv := wv) (vs := vs) 8 (x := .slice (some ⟨b, off, none⟩) L.length cap) (by rw [HLIT.out]; simp only [upv, e1, Nat.reduceBEq, cond_true, cond_false]) (by rw [HG.out]; exact j4.out) hM.out (by rw [HG.out]; exact fun _ _ h => h) (by rw [HG.out]; exact ⟨fun h => absurd h (by decide), fun _ => E8.out.symm⟩))
        · intro bf ac wv hfb haf hJ K' hK
          obtain ⟨vs, rfl, hM, j4⟩ := hJ
          replace hK := Lib.hid hK
          replace hM := Lib.hid hM
          rw [HG.out] at j4
          simp [Region.binds] at haf
          have e1 := ((j4 1 (by simp [haf])).2 (by decide)).trans E1.out
          replace j4 := Lib.hid j4
          clear haf hfb
          rw [HLIT.out]
          go_simp
          exact hK.out _ _ (RS.next (wv := wv) (vs := vs) 9 (x := .int .i64 m) (by rw [HLIT.out]; simp only [upv, e1, Nat.reduceBEq, cond_true, cond_false]) (by rw [HG.out]; exact j4.out) hM.out (by rw [HG.out]; exact fun _ _ h => h) (by rw [HG.out]; exact ⟨fun h => absurd h (by decide), fun _ => E9.out.symm⟩))
        · intro bf ac wv hfb haf hJ K' hK
          obtain ⟨vs, rfl, hM, j4⟩ := hJ
          replace hK := Lib.hid hK
          replace hM := Lib.hid hM
          rw [HG.out] at j4
          simp [Region.binds] at haf
          have e1 := ((j4 1 (by simp [haf])).2 (by decide)).trans E1.out
          have e8 := ((j4 8 (by simp [haf])).2 (by decide)).trans E8.out
          have e9 := ((j4 9 (by simp [haf])).2 (by decide)).trans E9.out
          replace j4 := Lib.hid j4
          clear haf hfb
          have hn1 : m < L.length := hml.out
          have hn2 : L.length ≤ cap := HCP.out
          have hnz : ¬ (cap = m) := by omega
          have hn3 : (0 : Int) ≤ (m : Int) := by omega
          have hn4 : (m : Int) ≤ (cap : Int) := by omega
          have hn5 : (m : Int) ≤ (L.length : Int) := by omega
          have hn6 : (L.length : Int) ≤ (cap : Int) := by omega
          have hn7 : m ≤ cap := by omega
          have hn8 : m ≤ L.length := by omega
          have hn9 : ¬ (cap - m = 0) := by omega
          have hn0 : ((L.length : Int) - (m : Int)).toNat = L.length - m := by omega
          have hnx : ((cap : Int) - (m : Int)).toNat = cap - m := by omega
          rw [HLIT.out]
          go_simp
          exact hK.out _ _ (RS.next (wv := wv) (vs := vs) 10 (x := .slice (some ⟨b, off + m, none⟩) (L.length - m) (cap - m)) (by rw [HLIT.out]; simp only [upv, e1, e8, e9, Nat.reduceBEq, cond_true, cond_false]) (by rw [HG.out]; exact j4.out) hM.out (by rw [HG.out]; exact fun _ _ h => h) (by rw [HG.out]; exact ⟨fun h => absurd h (by decide), fun _ => E10.out.symm⟩))
        · intro bf ac wv hfb haf hJ K' hK
          obtain ⟨vs, rfl, hM, j4⟩ := hJ
          replace hK := Lib.hid hK
          replace hM := Lib.hid hM
          rw [HG.out] at j4
          simp [Region.binds] at haf
          have e1 := ((j4 1 (by simp [haf])).2 (by decide)).trans E1.out
          have e10 := ((j4 10 (by simp [haf])).2 (by decide)).trans E10.out
          replace j4 := Lib.hid j4
          clear haf hfb
          rw [HLIT.out]
          go_simp
          go_at_call 23
          refine (root_any _ (L.drop m) _ (R2.out.step hM.out)).mono ?_
          rintro e w4 ⟨rfl, b4⟩
          rw [hr2.out]
          exact hK.out _ _ (RS.next (wv := wv) (vs := vs) 11 (x := .int .i64 r2) (by rw [HLIT.out]; simp only [upv, e1, e10, Nat.reduceBEq, cond_true, cond_false]) (by rw [HG.out]; exact j4.out) (keep2 b4 hM.out) (by rw [HG.out]; exact fun k v h => ⟨fun q => (h.1 q).imp fun gg q2 => ⟨q2.1, q2.2.step b4⟩, h.2⟩) (by rw [HG.out]; exact ⟨fun h => absurd h (by decide), fun _ => E11.out.symm⟩))
        · intro bf ac wv hfb haf hJ K' hK
          obtain ⟨vs, rfl, hM, j4⟩ := hJ
          replace hK := Lib.hid hK
          replace hM := Lib.hid hM
          rw [HG.out] at j4
          simp [Region.binds] at haf
          have e1 := ((j4 1 (by simp [haf])).2 (by decide)).trans E1.out
          have e7 := ((j4 7 (by simp [haf])).2 (by decide)).trans E7.out
          have e11 := ((j4 11 (by simp [haf])).2 (by decide)).trans E11.out
          replace j4 := Lib.hid j4
          clear haf hfb
          rw [HLIT.out]
          go_simp
          have b4 := al wv (.cells #[.int .i64 1, .int .i64 r1, .int .i64 r2] 3)
          exact hK.out _ _ (RS.next (wv := wv) (vs := vs) 12 (x := .slice (some ⟨wv.heap.size, 0, none⟩) 3 3) (by rw [HLIT.out]; simp only [upv, e1, e7, e11, Nat.reduceBEq, cond_true, cond_false]) (by rw [HG.out]; exact j4.out) (keep2 b4 hM.out) (by rw [HG.out]; exact fun k v h => ⟨fun q => (h.1 q).imp fun gg q2 => ⟨q2.1, q2.2.step b4⟩, h.2⟩) (by rw [HG.out]; exact ⟨fun _ => ⟨wv.heap.size, rfl, ints_lit wv [1, r1, r2] _ 3 rfl (by simp) 3 rfl _ rfl⟩, fun h12 => absurd rfl h12⟩))
        · intro bf ac wv hfb haf hJ K' hK
          obtain ⟨vs, rfl, hM, j4⟩ := hJ
          replace hK := Lib.hid hK
          replace hM := Lib.hid hM
          rw [HG.out] at j4
          simp [Region.binds] at haf
          have e1 := ((j4 1 (by simp [haf])).2 (by decide)).trans E1.out
          have e12 := (j4 12 (by simp [haf])).1 rfl
          replace j4 := Lib.hid j4
          clear haf hfb
          obtain ⟨gg, e12, hgi⟩ := e12
          rw [e12] at hgi
          rw [HLIT.out]
          go_simp
          go_at_call 15
          refine (sum_any _ [1, r1, r2] _ hgi).mono ?_
          rintro e w4 ⟨rfl, rfl⟩
          have b4 := Below.refl wv.heap.size wv
          rw [show Dg [1, r1, r2] = rt from HT.out.symm]
          exact hK.out _ _ (RS.next (wv := wv) (vs := vs) 13 (x := .int .i64 rt) (by rw [HLIT.out]; simp only [upv, e1, e12, Nat.reduceBEq, cond_true, cond_false]) (by rw [HG.out]; exact j4.out) (keep2 b4 hM.out) (by rw [HG.out]; exact fun k v h => ⟨fun q => (h.1 q).imp fun gg q2 => ⟨q2.1, q2.2.step b4⟩, h.2⟩) (by rw [HG.out]; exact ⟨fun h => absurd h (by decide), fun _ => E13.out.symm⟩))
        · intro bf ac wv hfb haf hJ K' hK
          obtain ⟨vs, rfl, hM, j4⟩ := hJ
          replace hK := Lib.hid hK
          replace hM := Lib.hid hM
          rw [HG.out] at j4
          simp [Region.binds] at haf
          have e1 := ((j4 1 (by simp [haf])).2 (by decide)).trans E1.out
          have e3 := ((j4 3 (by simp [haf])).2 (by decide)).trans E3.out
          have e13 := ((j4 13 (by simp [haf])).2 (by decide)).trans E13.out
          replace j4 := Lib.hid j4
          clear haf hfb
          rw [HLIT.out]
          go_simp
          exact hK.out _ _ (RS.next (wv := wv) (vs := vs) 14 (x := .bool true) (by rw [HLIT.out]; simp only [upv, e1, e3, e13, Nat.reduceBEq, cond_true, cond_false]) (by rw [HG.out]; exact j4.out) hM.out (by rw [HG.out]; exact fun _ _ h => h) (by rw [HG.out]; exact ⟨fun h => absurd h (by decide), fun _ => E14.out.symm⟩))
        · intro bf ac wv hfb haf hJ K' hK
          obtain ⟨vs, rfl, hM, j4⟩ := hJ
          replace hK := Lib.hid hK
          replace hM := Lib.hid hM
          rw [HG.out] at j4
          simp [Region.binds] at haf
          have e1 := ((j4 1 (by simp [haf])).2 (by decide)).trans E1.out
          have e14 := ((j4 14 (by simp [haf])).2 (by decide)).trans E14.out
          replace j4 := Lib.hid j4
          clear haf hfb
          rw [HLIT.out]
          go_simp
          exact hK.out _ _ (RS.next (wv := wv) (vs := vs) 15 (x := .bool true) (by rw [HLIT.out]; simp only [upv, e1, e14, Nat.reduceBEq, cond_true, cond_false]) (by rw [HG.out]; exact j4.out) hM.out (by rw [HG.out]; exact fun _ _ h => h) (by rw [HG.out]; exact ⟨fun h => absurd h (by decide), fun _ => E15.out.symm⟩))
        · intro bf ac wv hfb haf hJ K' hK
          obtain ⟨vs, rfl, hM, j4⟩ := hJ
          replace hK := Lib.hid hK
          replace hM := Lib.hid hM
          rw [HG.out] at j4
          simp [Region.binds] at haf
          have e15 := ((j4 15 (by simp [haf])).2 (by decide)).trans E15.out
          replace j4 := Lib.hid j4
          clear haf hfb
          rw [HLIT.out]
          go_simp
          exact hK.out _ _ (RS.next (wv := wv) (vs := vs) 16 (x := .bool true) (by rw [HLIT.out]; simp only [upv, e15, Nat.reduceBEq, cond_true, cond_false]) (by rw [HG.out]; exact j4.out) hM.out (by rw [HG.out]; exact fun _ _ h => h) (by rw [HG.out]; exact ⟨fun h => absurd h (by decide), fun _ => E16.out.symm⟩))
      · intro bf ac wv hall hJ
        obtain ⟨vs, rfl, hM, j4⟩ := hJ
        rw [HG.out] at j4
        have e16 := ((j4 16 (hall 16 (by decide))).2 (by decide)).trans E16.out
        have HB9 := Lib.hid (keep2 hM HB2.out)
        clear hM hall j4
        rw [HLIT.out]
        dsimp only
        rw [e16]
        clear e16
        go_wp2
        go_ret
        exact ⟨rfl, HB9.out⟩
theorem trees_any (v : Value) (L : List (List Int)) (w : World) (h : RowsAt w v L) (hcap : CapOk v) : Calls Try.prog 7 #[v] w fun e w' => e = .returned (.bool true) ∧ Below w.heap.size w w' := by
  cases hf : fewB L 60
  · exact trees_few v L w h hcap hf
  · by_cases h0 : L.length = 0
    · exact trees_nil v L w h hcap hf h0
    · by_cases h1 : L.length = 1
      · exact trees_one v L w h hcap hf h1
      · exact trees_more v L w h hcap hf (by omega)
end Go.Proofs.Ytkmplekfcalggaa
