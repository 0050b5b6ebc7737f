/- Frames, the reference: 'Encode'. -/
import Derived.Test.YtebeaekiaikgmaaPc
import Derived.Test.YtebeaekiaikgmaaIv
namespace Go.Proofs.Ytebeaekiaikgmaa
open Go.RowKit

theorem encA_is (a b c d : Int) : encA a b c d = ((encN 4 a ++ encN 4 b) ++ encN 4 c) ++ encN 4 d := by simp [encA, encs]
theorem enc1 (n : Int) (h0 : 0 ≤ n) (h1 : n < 256) : encs 1 [n] = [n] := by
  simp [encs, encN, byt, List.range_succ]
  exact Int.emod_eq_of_lt (by omega) (by omega)
/-- A list of bytes in a block of one's own. -/
def RowB (n0 : Nat) (v : Value) (l : List Int) (w : World) : Prop := w.ownsRow n0 5 1 v l.length (l.map (Value.int .u8))
theorem RowB.step {n0 : Nat} {v : Value} {l : List Int} {w w' : World} (h : RowB n0 v l w) (hb : Below w.heap.size w w') : RowB n0 v l w' := row_step h hb
theorem RowB.bys {n0 : Nat} {v : Value} {l : List Int} {w : World} (h : RowB n0 v l w) : BysAt w v l := bys_of_row h
theorem u8_one (l : List Int) : ∀ u ∈ l.map (Value.int .u8), u.oneCell' = true := fun u hu => by
  obtain ⟨x, -, rfl⟩ := List.mem_map.1 hu
  rfl
theorem run_appBB (w : World) (base : Nat) (v u : Value) (xs ys : List Int) (ty : TypeId) (h : RowB base v xs w) (k : RowB base u ys w) (hm : 0 < ys.length) (h63 : xs.length + ys.length ≤ 10000) (hb : base ≤ w.heap.size) :
    ∃ v' w', (Builtin.append_ #[25, 25] ty #[v, u]).run Try.prog w = .ok v' w' ∧ RowB base v' (xs ++ ys) w' ∧ w.grownBy w' v.ownBlock := by
  obtain ⟨i0, hi, hz0, hz1, hz2⟩ := info_parts infoBy
  have hk := fun g hg => k.cells (g := g) hg
  rcases k.2 with ⟨rfl, h0⟩ | ⟨g, cap, cur, rfl, h1, h2, h3, h4, -⟩
  · omega
  · obtain ⟨v', w', q1, q2, q3, -, -⟩ := run_append_own_at (P := Try.prog) w base 25 ty 5 i0 _ 1 1 Try.underlying25 hi hz0 hz1 hz2 rfl (by decide) v xs.length (xs.map (Value.int .u8)) h ⟨g, 0, none⟩ ys.length cap (ys.map (Value.int .u8)) (by simp) (hk g rfl) (u8_one ys) (by unfold maxLen; omega) (by omega) hb
    exact ⟨v', w', q1, by unfold RowB; rw [List.length_append, List.map_append]; exact q2, q3⟩
theorem step_app {ops : Array Oper} {o : Oper} {a : Act} {w w' : World} {K : Act → World → Prop} {Q : Exit → Act → World → Prop} {E : Prop} (hgd : o.guard = none) (s x : Operand) (t : TypeId)
    (ho : o.op = .call { callee := .builtin .append, args := #[s, x], argTypes := #[t, t] }) (v sl v' : Value) (hs : a.eval s = v) (hx : a.eval x = sl)
    (hr : (Builtin.append_ #[t, t] o.type #[v, sl]).run Try.prog w = .ok v' w') (h : K (a.put o.dst v') w') :
    if Region.wanted o (yielded ops a.tmps) = true then Oper.wp Try.prog o a w K Q else E := by
  have hw : Region.wanted o (yielded ops a.tmps) = true := by simp [Region.wanted, hgd]
  rw [if_pos hw]
  unfold Oper.wp execOp
  simp only [ho, resolve, invoke, builtin, Sem.run_bind, Sem.run_pure, Result.andThen_ok, List.map_toArray, List.map_cons, List.map_nil, hs, hx, hr]
  exact h
/-- How far the bytes have come. -/
def EM (n0 : Nat) (a b c d : Int) (s : Nat) (vs : Nat → Value) (W : World) : Prop :=
  match s with
  | 0 => True
  | 1 => RowB n0 (vs 2) (encN 4 a) W
  | 2 => RowB n0 (vs 2) (encN 4 a) W ∧ RowB n0 (vs 5) (encN 4 b) W
  | 3 => RowB n0 (vs 6) (encN 4 a ++ encN 4 b) W
  | 4 => RowB n0 (vs 6) (encN 4 a ++ encN 4 b) W ∧ RowB n0 (vs 9) (encN 4 c) W
  | 5 => RowB n0 (vs 10) ((encN 4 a ++ encN 4 b) ++ encN 4 c) W
  | 6 => RowB n0 (vs 10) ((encN 4 a ++ encN 4 b) ++ encN 4 c) W ∧ RowB n0 (vs 13) (encN 4 d) W
  | 7 => RowB n0 (vs 14) (((encN 4 a ++ encN 4 b) ++ encN 4 c) ++ encN 4 d) W
  | _ => RowB n0 (vs 15) (((encN 4 a ++ encN 4 b) ++ encN 4 c) ++ encN 4 d) W
def NC (i : Nat) : Prop := i ≠ 2 ∧ i ≠ 5 ∧ i ≠ 6 ∧ i ≠ 9 ∧ i ≠ 10 ∧ i ≠ 13 ∧ i ≠ 14 ∧ i ≠ 15
theorem EM.upv {n0 : Nat} {a b c d : Int} {s i : Nat} {vs : Nat → Value} {W : World} (x : Value) (hi : NC i) (h : EM n0 a b c d s vs W) : EM n0 a b c d s (upv vs i x) W := by
  obtain ⟨h1, h2, h3, h4, h5, h6, h7, h8⟩ := hi
  have e := fun k (hk : k ≠ i) => upv_ne vs i k x hk
  rcases s with _ | _ | _ | _ | _ | _ | _ | _ | s
  all_goals first
    | trivial
    | (unfold EM at h ⊢
       simp only [e 2 (Ne.symm h1), e 5 (Ne.symm h2), e 6 (Ne.symm h3), e 9 (Ne.symm h4), e 10 (Ne.symm h5), e 13 (Ne.symm h6), e 14 (Ne.symm h7), e 15 (Ne.symm h8)]
       exact h)
/-- Which operations of the chain have come up. -/
def CB (bf : Nat → Bool) (s : Nat) : Prop := bf 2 = decide (0 < s) ∧ bf 5 = decide (1 < s) ∧ bf 6 = decide (2 < s) ∧ bf 9 = decide (3 < s) ∧ bf 10 = decide (4 < s) ∧ bf 13 = decide (5 < s) ∧ bf 14 = decide (6 < s) ∧ bf 15 = decide (7 < s)
theorem CB.keep {bf : Nat → Bool} {s i : Nat} (hi : NC i) (h : CB bf s) : CB (up bf i) s := by
  obtain ⟨h1, h2, h3, h4, h5, h6, h7, h8⟩ := hi
  obtain ⟨k1, k2, k3, k4, k5, k6, k7, k8⟩ := h
  exact ⟨(up_ne _ _ _ (Ne.symm h1)).trans k1, (up_ne _ _ _ (Ne.symm h2)).trans k2, (up_ne _ _ _ (Ne.symm h3)).trans k3, (up_ne _ _ _ (Ne.symm h4)).trans k4, (up_ne _ _ _ (Ne.symm h5)).trans k5, (up_ne _ _ _ (Ne.symm h6)).trans k6, (up_ne _ _ _ (Ne.symm h7)).trans k7, (up_ne _ _ _ (Ne.symm h8)).trans k8⟩
def EJ (lit : (Nat → Value) → Act) (n0 : Nat) (W : World) (a b c d : Int) (val : List Value) (bf : Nat → Bool) (ac : Act) (wv : World) : Prop :=
  ∃ s vs, ac = lit vs ∧ Below n0 W wv ∧ CB bf s ∧ (∀ i, bf i = true → NC i → vs i = val.getD i undef) ∧ EM n0 a b c d s vs wv
theorem EJ.plain {lit : (Nat → Value) → Act} {n0 : Nat} {W : World} {a b c d : Int} {val : List Value} {bf : Nat → Bool} {wv : World} {s : Nat} {vs : Nat → Value} (i : Nat) (hi : NC i) {x : Value} {ac' : Act} (hac : ac' = lit (upv vs i x))
    (hM : Below n0 W wv) (hB : CB bf s) (hv : ∀ i, bf i = true → NC i → vs i = val.getD i undef) (hE : EM n0 a b c d s vs wv) (hx : x = val.getD i undef) : EJ lit n0 W a b c d val (up bf i) ac' wv := by
  refine ⟨s, upv vs i x, hac, hM, hB.keep hi, fun j hj hn => ?_, hE.upv x hi⟩
  by_cases e : j = i
  · subst e; rw [upv_same]; exact hx
  · rw [up_ne _ _ _ e] at hj; rw [upv_ne _ _ _ _ e]; exact hv j hj hn
theorem EJ.chain {lit : (Nat → Value) → Act} {n0 : Nat} {W : World} {a b c d : Int} {val : List Value} {bf : Nat → Bool} {wv : World} {s : Nat} {vs : Nat → Value} (i : Nat) (hi : ¬ NC i) {x : Value} {w' : World} {ac' : Act} (hac : ac' = lit (upv vs i x))
    (hM : Below n0 W w') (hB : CB (up bf i) (s + 1)) (hv : ∀ i, bf i = true → NC i → vs i = val.getD i undef) (hE : EM n0 a b c d (s + 1) (upv vs i x) w') : EJ lit n0 W a b c d val (up bf i) ac' w' := by
  refine ⟨s + 1, upv vs i x, hac, hM, hB, fun j hj hn => ?_, hE⟩
  by_cases e : j = i
  · subst e; exact absurd hn hi
  · rw [up_ne _ _ _ e] at hj; rw [upv_ne _ _ _ _ e]; exact hv j hj hn
theorem CB.next {bf : Nat → Bool} {s : Nat} (i m : Nat) (h : CB bf s) (hs : s = m) (hi : (i, m) = (2, 0) ∨ (i, m) = (5, 1) ∨ (i, m) = (6, 2) ∨ (i, m) = (9, 3) ∨ (i, m) = (10, 4) ∨ (i, m) = (13, 5) ∨ (i, m) = (14, 6) ∨ (i, m) = (15, 7)) : CB (up bf i) (s + 1) := by
  subst hs
  obtain ⟨k1, k2, k3, k4, k5, k6, k7, k8⟩ := h
  rcases hi with h | h | h | h | h | h | h | h <;> (cases h; simp at k1 k2 k3 k4 k5 k6 k7 k8; simp [CB, up, k1, k2, k3, k4, k5, k6, k7, k8])
theorem CB.at {bf : Nat → Bool} {s : Nat} (h : CB bf s) :
    (bf 2 = false → s = 0) ∧ (bf 2 = true → bf 5 = false → s = 1) ∧ (bf 5 = true → bf 6 = false → s = 2) ∧ (bf 6 = true → bf 9 = false → s = 3) ∧ (bf 9 = true → bf 10 = false → s = 4) ∧ (bf 10 = true → bf 13 = false → s = 5) ∧ (bf 13 = true → bf 14 = false → s = 6) ∧ (bf 14 = true → bf 15 = false → s = 7) := by
  obtain ⟨k1, k2, k3, k4, k5, k6, k7, k8⟩ := h
  rw [k1, k2, k3, k4, k5, k6, k7, k8]
  simp only [decide_eq_true_iff, decide_eq_false_iff_not]
  refine ⟨?_, ?_, ?_, ?_, ?_, ?_, ?_, ?_⟩ <;> intros <;> omega
set_option maxRecDepth 100000 in
set_option maxHeartbeats 8000000 in
theorem rencode_no (a b c d : Int) (sl : Value) (l : List Int) (t : Int) (w : World) (h : IntsAt w sl l) (hv : vaB a b c d l t = false) : Calls Try.prog 23 #[.agg #[.int .i64 a, .int .i64 b, .int .i64 c, .int .i64 d, sl, .int .i64 t]] w fun e w' => e = .returned (.slice none 0 0) ∧ Below w.heap.size w w' := by
  have HL0 := Lib.hid h
  obtain ⟨sa, sc, rfl, hm, -⟩ := h
  have HV := Lib.hid hv
  have HC0 := Lib.hid (Cs.new w w.heap.size #[.int .i64 a, .int .i64 b, .int .i64 c, .int .i64 d, .slice sa l.length sc, .int .i64 t] 24 rfl)
  have HB0 := Lib.hid (al w (.cells #[.int .i64 a, .int .i64 b, .int .i64 c, .int .i64 d, .slice sa l.length sc, .int .i64 t] 24))
  have HL1 := Lib.hid (HL0.out.step HB0.out)
  clear hv hm HL0
  have x0 := HC0.out.c 0 rfl
  have x1 := HC0.out.c 1 rfl
  have x2 := HC0.out.c 2 rfl
  have x3 := HC0.out.c 3 rfl
  have x4 := HC0.out.c 4 rfl
  have x5 := HC0.out.c 5 rfl
  have xz := HC0.out.2.2
  go_enter Try.func23, Try.ntmps23
  go_wp2_with fail
  refine (rvalid_any a b c d _ l t _ HL1.out _ HV.out).mono ?_
  rintro e w1 ⟨rfl, b1⟩
  have HB1 := Lib.hid (keep2 b1 HB0.out)
  clear b1
  go_wp2
  go_ret
  exact ⟨rfl, HB1.out⟩
set_option maxRecDepth 100000 in
set_option maxHeartbeats 8000000 in
theorem rencode_yes (a b c d : Int) (sl : Value) (l : List Int) (t : Int) (w : World) (h : IntsAt w sl l) (hv : vaB a b c d l t = true) : Calls Try.prog 23 #[.agg #[.int .i64 a, .int .i64 b, .int .i64 c, .int .i64 d, sl, .int .i64 t]] w fun e w' => ∃ u, e = .returned u ∧ w'.ownsRow w.heap.size 5 1 u (encF a b c d l t).length ((encF a b c d l t).map (Value.int .u8)) ∧ Below w.heap.size w w' := by
  have HL0 := Lib.hid h
  obtain ⟨sa, sc, rfl, hm, -⟩ := h
  have HV := Lib.hid hv
  have HC0 := Lib.hid (Cs.new w w.heap.size #[.int .i64 a, .int .i64 b, .int .i64 c, .int .i64 d, .slice sa l.length sc, .int .i64 t] 24 rfl)
  have HB0 := Lib.hid (al w (.cells #[.int .i64 a, .int .i64 b, .int .i64 c, .int .i64 d, .slice sa l.length sc, .int .i64 t] 24))
  have HL1 := Lib.hid (HL0.out.step HB0.out)
  clear hv hm
  have x0 := HC0.out.c 0 rfl
  have x1 := HC0.out.c 1 rfl
  have x2 := HC0.out.c 2 rfl
  have x3 := HC0.out.c 3 rfl
  have x4 := HC0.out.c 4 rfl
  have x5 := HC0.out.c 5 rfl
  have xz := HC0.out.2.2
  go_enter Try.func23, Try.ntmps23
  go_wp2_with fail
  refine (rvalid_any a b c d _ l t _ HL1.out _ HV.out).mono ?_
  rintro e w1 ⟨rfl, b1⟩
  have HB1 := Lib.hid (keep2 b1 HB0.out)
  have HC1 := Lib.hid (HC0.out.step b1)
  have HL2 := Lib.hid (HL1.out.step b1)
  clear b1 x0 x1 x2 x3 x4 x5 xz HC0 HL1
  go_wp2_with fail
  go_upto_region 3 with fail
  have HCC := Lib.hid (show Cs w1 w.heap.size #[.int .i64 a, .int .i64 b, .int .i64 c, .int .i64 d, .slice sa l.length sc, .int .i64 t] from HC1.out)
  have HBD := Lib.hid (show (0 ≤ a ∧ a ≤ 1000000) ∧ (0 ≤ b ∧ b ≤ 1000000) ∧ (0 ≤ c ∧ c ≤ 1000000) ∧ (0 ≤ d ∧ d ≤ 1000000) from ⟨(va_parts HV.out).1, (va_parts HV.out).2.1, (va_parts HV.out).2.2.1, (va_parts HV.out).2.2.2.1⟩)
  obtain ⟨lit, hlit⟩ : ∃ lit : (Nat → Value) → Act, lit = fun vs => { tmps := List.toArray (Value.agg #[Value.int IntKind.i64 a, Value.int IntKind.i64 b, Value.int IntKind.i64 c, Value.int IntKind.i64 d, Value.slice sa l.length sc, Value.int IntKind.i64 t] :: Value.pointer (some { block := w.heap.size, off := 0 }) :: Value.slice none 0 0 :: vs 15 :: undef :: Value.agg #[Value.int IntKind.i64 a, Value.int IntKind.i64 b, Value.int IntKind.i64 c, Value.int IntKind.i64 d, Value.slice sa l.length sc, Value.int IntKind.i64 t] :: Value.bool true :: Value.bool false :: vs 0 :: vs 1 :: vs 2 :: vs 3 :: vs 4 :: vs 5 :: vs 6 :: vs 7 :: vs 8 :: vs 9 :: vs 10 :: vs 11 :: vs 12 :: vs 13 :: vs 14 :: undef :: undef :: undef :: undef :: undef :: undef :: undef :: undef :: undef :: undef :: undef :: undef :: undef :: undef :: undef :: undef :: undef :: undef :: undef :: undef :: undef :: undef :: undef :: undef :: undef :: undef :: undef :: undef :: undef :: undef :: undef :: undef :: []), defers := [] } := ⟨_, rfl⟩
  have HLIT := Lib.hid hlit
  clear hlit
  obtain ⟨val, hval⟩ : ∃ val : List Value, val = [.pointer (some ⟨w.heap.size, 0, none⟩), .int .i64 a, undef, .pointer (some ⟨w.heap.size, 1, none⟩), .int .i64 b, undef, undef, .pointer (some ⟨w.heap.size, 2, none⟩), .int .i64 c, undef, undef, .pointer (some ⟨w.heap.size, 3, none⟩), .int .i64 d, undef, undef, undef] := ⟨_, rfl⟩
  have E0 := Lib.hid (show val.getD 0 undef = .pointer (some ⟨w.heap.size, 0, none⟩) by rw [hval]; rfl)
  have E1 := Lib.hid (show val.getD 1 undef = .int .i64 a by rw [hval]; rfl)
  have E3 := Lib.hid (show val.getD 3 undef = .pointer (some ⟨w.heap.size, 1, none⟩) by rw [hval]; rfl)
  have E4 := Lib.hid (show val.getD 4 undef = .int .i64 b by rw [hval]; rfl)
  have E7 := Lib.hid (show val.getD 7 undef = .pointer (some ⟨w.heap.size, 2, none⟩) by rw [hval]; rfl)
  have E8 := Lib.hid (show val.getD 8 undef = .int .i64 c by rw [hval]; rfl)
  have E11 := Lib.hid (show val.getD 11 undef = .pointer (some ⟨w.heap.size, 3, none⟩) by rw [hval]; rfl)
  have E12 := Lib.hid (show val.getD 12 undef = .int .i64 d by rw [hval]; rfl)
  clear hval
  refine region_inv (EJ lit w1.heap.size w1 a b c d val) (by kernel_rfl) (by decide +kernel) ?_ ?_ ?_
  · exact ⟨0, fun i => ([undef, undef, undef, undef, undef, undef, undef, undef, undef, undef, undef, undef, undef, undef, undef, undef] : List Value).getD i undef, (by rw [HLIT.out]; rfl), below_drew _ _, ⟨rfl, rfl, rfl, rfl, rfl, rfl, rfl, rfl⟩, fun i h => (by cases h), trivial⟩
  · refine ⟨?_, ?_, ?_, ?_, ?_, ?_, ?_, ?_, ?_, ?_, ?_, ?_, ?_, ?_, ?_, ?_, trivial⟩
    · intro bf ac wv hfb haf hJ K' hK
      obtain ⟨s, vs, rfl, hM, hB, hv, hE⟩ := hJ
      replace hK := Lib.hid hK
      have HM := Lib.hid hM
      have HBB := Lib.hid hB
      have HVV := Lib.hid hv
      skip
      have HEE := Lib.hid hE
      clear haf hfb hM hB hv hE
      rw [HLIT.out]
      go_simp
      exact hK.out _ _ (EJ.plain 0 (by unfold NC; decide) (x := .pointer (some ⟨w.heap.size, 0, none⟩)) (by rw [HLIT.out]; rfl) HM.out HBB.out HVV.out HEE.out E0.out.symm)
    · intro bf ac wv hfb haf hJ K' hK
      obtain ⟨s, vs, rfl, hM, hB, hv, hE⟩ := hJ
      replace hK := Lib.hid hK
      have HM := Lib.hid hM
      have HBB := Lib.hid hB
      have HVV := Lib.hid hv
      simp [Region.binds] at haf
      have e0 : vs 0 = _ := (hv 0 (by simp [haf]) (by unfold NC; decide)).trans E0.out
      have HEE := Lib.hid hE
      clear haf hfb hM hB hv hE
      have x0 := (HCC.out.step HM.out).c 0 rfl
      have xz := (HCC.out.step HM.out).2.2
      rw [HLIT.out]
      go_simp
      exact hK.out _ _ (EJ.plain 1 (by unfold NC; decide) (x := .int .i64 a) (by rw [HLIT.out]; simp only [upv, e0, Nat.reduceBEq, cond_true, cond_false]) HM.out HBB.out HVV.out HEE.out E1.out.symm)
    · intro bf ac wv hfb haf hJ K' hK
      obtain ⟨s, vs, rfl, hM, hB, hv, hE⟩ := hJ
      replace hK := Lib.hid hK
      have HM := Lib.hid hM
      have HBB := Lib.hid hB
      have HVV := Lib.hid hv
      simp [Region.binds] at haf
      have e1 : vs 1 = _ := (hv 1 (by simp [haf]) (by unfold NC; decide)).trans E1.out
      obtain rfl : s = 0 := (hB.at).1 hfb
      have HEE := Lib.hid hE
      clear haf hfb hM hB hv hE
      rw [HLIT.out]
      go_simp
      go_at_call 48
      refine (four_any a _ (by have := HBD.out; omega) (by have := HBD.out; omega)).mono ?_
      rintro e w8 ⟨u, rfl, hu, b8⟩
      exact hK.out _ _ (EJ.chain (wv := wv) (s := 0) 2 (by unfold NC; decide) (x := u) (by rw [HLIT.out]; simp only [upv, e1, Nat.reduceBEq, cond_true, cond_false]) (keep2 b8 HM.out) (CB.next 2 0 HBB.out rfl (by decide)) HVV.out (show RowB _ u (encN 4 a) w8 from (by unfold RowB; rw [encN_len]; exact row_base0 hu HM.out.size)))
    · intro bf ac wv hfb haf hJ K' hK
      obtain ⟨s, vs, rfl, hM, hB, hv, hE⟩ := hJ
      replace hK := Lib.hid hK
      have HM := Lib.hid hM
      have HBB := Lib.hid hB
      have HVV := Lib.hid hv
      skip
      have HEE := Lib.hid hE
      clear haf hfb hM hB hv hE
      rw [HLIT.out]
      go_simp
      exact hK.out _ _ (EJ.plain 3 (by unfold NC; decide) (x := .pointer (some ⟨w.heap.size, 1, none⟩)) (by rw [HLIT.out]; rfl) HM.out HBB.out HVV.out HEE.out E3.out.symm)
    · intro bf ac wv hfb haf hJ K' hK
      obtain ⟨s, vs, rfl, hM, hB, hv, hE⟩ := hJ
      replace hK := Lib.hid hK
      have HM := Lib.hid hM
      have HBB := Lib.hid hB
      have HVV := Lib.hid hv
      simp [Region.binds] at haf
      have e3 : vs 3 = _ := (hv 3 (by simp [haf]) (by unfold NC; decide)).trans E3.out
      have HEE := Lib.hid hE
      clear haf hfb hM hB hv hE
      have x0 := (HCC.out.step HM.out).c 1 rfl
      have xz := (HCC.out.step HM.out).2.2
      rw [HLIT.out]
      go_simp
      exact hK.out _ _ (EJ.plain 4 (by unfold NC; decide) (x := .int .i64 b) (by rw [HLIT.out]; simp only [upv, e3, Nat.reduceBEq, cond_true, cond_false]) HM.out HBB.out HVV.out HEE.out E4.out.symm)
    · intro bf ac wv hfb haf hJ K' hK
      obtain ⟨s, vs, rfl, hM, hB, hv, hE⟩ := hJ
      replace hK := Lib.hid hK
      have HM := Lib.hid hM
      have HBB := Lib.hid hB
      have HVV := Lib.hid hv
      simp [Region.binds] at haf
      have e4 : vs 4 = _ := (hv 4 (by simp [haf]) (by unfold NC; decide)).trans E4.out
      obtain rfl : s = 1 := (hB.at).2.1 (by simp [haf]) hfb
      have HEE := Lib.hid hE
      clear haf hfb hM hB hv hE
      rw [HLIT.out]
      go_simp
      go_at_call 48
      refine (four_any b _ (by have := HBD.out; omega) (by have := HBD.out; omega)).mono ?_
      rintro e w8 ⟨u, rfl, hu, b8⟩
      exact hK.out _ _ (EJ.chain (wv := wv) (s := 1) 5 (by unfold NC; decide) (x := u) (by rw [HLIT.out]; simp only [upv, e4, Nat.reduceBEq, cond_true, cond_false]) (keep2 b8 HM.out) (CB.next 5 1 HBB.out rfl (by decide)) HVV.out ⟨(HEE.out.step b8 : RowB _ (vs 2) _ w8), (show RowB _ u (encN 4 b) w8 from (by unfold RowB; rw [encN_len]; exact row_base0 hu HM.out.size))⟩)
    · intro bf ac wv hfb haf hJ K' hK
      obtain ⟨s, vs, rfl, hM, hB, hv, hE⟩ := hJ
      replace hK := Lib.hid hK
      have HM := Lib.hid hM
      have HBB := Lib.hid hB
      have HVV := Lib.hid hv
      simp [Region.binds] at haf
      obtain rfl : s = 2 := (hB.at).2.2.1 (by simp [haf]) hfb
      obtain ⟨hp, hq⟩ := hE
      obtain ⟨v5, w5, hr5, ho5, hg5⟩ := run_appBB wv w1.heap.size (vs 2) (vs 5) _ _ 25 hp hq (by rw [encN_len]; decide) (by simp [encN_len]) hM.size
      have hb5 := hM.grown hg5 hM.size (fun k e => row_own hp e)
      rw [HLIT.out]
      refine step_app rfl _ _ 25 rfl _ _ v5 rfl rfl hr5 ?_
      exact hK.out _ _ (EJ.chain (wv := wv) (s := 2) 6 (by unfold NC; decide) (x := v5) (by rw [HLIT.out]; rfl) hb5 (CB.next 6 2 HBB.out rfl (by decide)) hv (show RowB _ v5 _ w5 from ho5))
    · intro bf ac wv hfb haf hJ K' hK
      obtain ⟨s, vs, rfl, hM, hB, hv, hE⟩ := hJ
      replace hK := Lib.hid hK
      have HM := Lib.hid hM
      have HBB := Lib.hid hB
      have HVV := Lib.hid hv
      skip
      have HEE := Lib.hid hE
      clear haf hfb hM hB hv hE
      rw [HLIT.out]
      go_simp
      exact hK.out _ _ (EJ.plain 7 (by unfold NC; decide) (x := .pointer (some ⟨w.heap.size, 2, none⟩)) (by rw [HLIT.out]; rfl) HM.out HBB.out HVV.out HEE.out E7.out.symm)
    · intro bf ac wv hfb haf hJ K' hK
      obtain ⟨s, vs, rfl, hM, hB, hv, hE⟩ := hJ
      replace hK := Lib.hid hK
      have HM := Lib.hid hM
      have HBB := Lib.hid hB
      have HVV := Lib.hid hv
      simp [Region.binds] at haf
      have e7 : vs 7 = _ := (hv 7 (by simp [haf]) (by unfold NC; decide)).trans E7.out
      have HEE := Lib.hid hE
      clear haf hfb hM hB hv hE
      have x0 := (HCC.out.step HM.out).c 2 rfl
      have xz := (HCC.out.step HM.out).2.2
      rw [HLIT.out]
      go_simp
      exact hK.out _ _ (EJ.plain 8 (by unfold NC; decide) (x := .int .i64 c) (by rw [HLIT.out]; simp only [upv, e7, Nat.reduceBEq, cond_true, cond_false]) HM.out HBB.out HVV.out HEE.out E8.out.symm)
    · intro bf ac wv hfb haf hJ K' hK
      obtain ⟨s, vs, rfl, hM, hB, hv, hE⟩ := hJ
      replace hK := Lib.hid hK
      have HM := Lib.hid hM
      have HBB := Lib.hid hB
      have HVV := Lib.hid hv
      simp [Region.binds] at haf
      have e8 : vs 8 = _ := (hv 8 (by simp [haf]) (by unfold NC; decide)).trans E8.out
      obtain rfl : s = 3 := (hB.at).2.2.2.1 (by simp [haf]) hfb
      have HEE := Lib.hid hE
      clear haf hfb hM hB hv hE
      rw [HLIT.out]
      go_simp
      go_at_call 48
      refine (four_any c _ (by have := HBD.out; omega) (by have := HBD.out; omega)).mono ?_
      rintro e w8 ⟨u, rfl, hu, b8⟩
      exact hK.out _ _ (EJ.chain (wv := wv) (s := 3) 9 (by unfold NC; decide) (x := u) (by rw [HLIT.out]; simp only [upv, e8, Nat.reduceBEq, cond_true, cond_false]) (keep2 b8 HM.out) (CB.next 9 3 HBB.out rfl (by decide)) HVV.out ⟨(HEE.out.step b8 : RowB _ (vs 6) _ w8), (show RowB _ u (encN 4 c) w8 from (by unfold RowB; rw [encN_len]; exact row_base0 hu HM.out.size))⟩)
    · intro bf ac wv hfb haf hJ K' hK
      obtain ⟨s, vs, rfl, hM, hB, hv, hE⟩ := hJ
      replace hK := Lib.hid hK
      have HM := Lib.hid hM
      have HBB := Lib.hid hB
      have HVV := Lib.hid hv
      simp [Region.binds] at haf
      obtain rfl : s = 4 := (hB.at).2.2.2.2.1 (by simp [haf]) hfb
      obtain ⟨hp, hq⟩ := hE
      obtain ⟨v5, w5, hr5, ho5, hg5⟩ := run_appBB wv w1.heap.size (vs 6) (vs 9) _ _ 25 hp hq (by rw [encN_len]; decide) (by simp [encN_len]) hM.size
      have hb5 := hM.grown hg5 hM.size (fun k e => row_own hp e)
      rw [HLIT.out]
      refine step_app rfl _ _ 25 rfl _ _ v5 rfl rfl hr5 ?_
      exact hK.out _ _ (EJ.chain (wv := wv) (s := 4) 10 (by unfold NC; decide) (x := v5) (by rw [HLIT.out]; rfl) hb5 (CB.next 10 4 HBB.out rfl (by decide)) hv (show RowB _ v5 _ w5 from ho5))
    · intro bf ac wv hfb haf hJ K' hK
      obtain ⟨s, vs, rfl, hM, hB, hv, hE⟩ := hJ
      replace hK := Lib.hid hK
      have HM := Lib.hid hM
      have HBB := Lib.hid hB
      have HVV := Lib.hid hv
      skip
      have HEE := Lib.hid hE
      clear haf hfb hM hB hv hE
      rw [HLIT.out]
      go_simp
      exact hK.out _ _ (EJ.plain 11 (by unfold NC; decide) (x := .pointer (some ⟨w.heap.size, 3, none⟩)) (by rw [HLIT.out]; rfl) HM.out HBB.out HVV.out HEE.out E11.out.symm)
    · intro bf ac wv hfb haf hJ K' hK
      obtain ⟨s, vs, rfl, hM, hB, hv, hE⟩ := hJ
      replace hK := Lib.hid hK
      have HM := Lib.hid hM
      have HBB := Lib.hid hB
      have HVV := Lib.hid hv
      simp [Region.binds] at haf
      have e11 : vs 11 = _ := (hv 11 (by simp [haf]) (by unfold NC; decide)).trans E11.out
      have HEE := Lib.hid hE
      clear haf hfb hM hB hv hE
      have x0 := (HCC.out.step HM.out).c 3 rfl
      have xz := (HCC.out.step HM.out).2.2
      rw [HLIT.out]
      go_simp
      exact hK.out _ _ (EJ.plain 12 (by unfold NC; decide) (x := .int .i64 d) (by rw [HLIT.out]; simp only [upv, e11, Nat.reduceBEq, cond_true, cond_false]) HM.out HBB.out HVV.out HEE.out E12.out.symm)
    · intro bf ac wv hfb haf hJ K' hK
      obtain ⟨s, vs, rfl, hM, hB, hv, hE⟩ := hJ
      replace hK := Lib.hid hK
      have HM := Lib.hid hM
      have HBB := Lib.hid hB
      have HVV := Lib.hid hv
      simp [Region.binds] at haf
      have e12 : vs 12 = _ := (hv 12 (by simp [haf]) (by unfold NC; decide)).trans E12.out
      obtain rfl : s = 5 := (hB.at).2.2.2.2.2.1 (by simp [haf]) hfb
      have HEE := Lib.hid hE
      clear haf hfb hM hB hv hE
      rw [HLIT.out]
      go_simp
      go_at_call 48
      refine (four_any d _ (by have := HBD.out; omega) (by have := HBD.out; omega)).mono ?_
      rintro e w8 ⟨u, rfl, hu, b8⟩
      exact hK.out _ _ (EJ.chain (wv := wv) (s := 5) 13 (by unfold NC; decide) (x := u) (by rw [HLIT.out]; simp only [upv, e12, Nat.reduceBEq, cond_true, cond_false]) (keep2 b8 HM.out) (CB.next 13 5 HBB.out rfl (by decide)) HVV.out ⟨(HEE.out.step b8 : RowB _ (vs 10) _ w8), (show RowB _ u (encN 4 d) w8 from (by unfold RowB; rw [encN_len]; exact row_base0 hu HM.out.size))⟩)
    · intro bf ac wv hfb haf hJ K' hK
      obtain ⟨s, vs, rfl, hM, hB, hv, hE⟩ := hJ
      replace hK := Lib.hid hK
      have HM := Lib.hid hM
      have HBB := Lib.hid hB
      have HVV := Lib.hid hv
      simp [Region.binds] at haf
      obtain rfl : s = 6 := (hB.at).2.2.2.2.2.2.1 (by simp [haf]) hfb
      obtain ⟨hp, hq⟩ := hE
      obtain ⟨v5, w5, hr5, ho5, hg5⟩ := run_appBB wv w1.heap.size (vs 10) (vs 13) _ _ 25 hp hq (by rw [encN_len]; decide) (by simp [encN_len]) hM.size
      have hb5 := hM.grown hg5 hM.size (fun k e => row_own hp e)
      rw [HLIT.out]
      refine step_app rfl _ _ 25 rfl _ _ v5 rfl rfl hr5 ?_
      exact hK.out _ _ (EJ.chain (wv := wv) (s := 6) 14 (by unfold NC; decide) (x := v5) (by rw [HLIT.out]; rfl) hb5 (CB.next 14 6 HBB.out rfl (by decide)) hv (show RowB _ v5 _ w5 from ho5))
    · intro bf ac wv hfb haf hJ K' hK
      obtain ⟨s, vs, rfl, hM, hB, hv, hE⟩ := hJ
      replace hK := Lib.hid hK
      have HM := Lib.hid hM
      have HBB := Lib.hid hB
      have HVV := Lib.hid hv
      simp [Region.binds] at haf
      obtain rfl : s = 7 := (hB.at).2.2.2.2.2.2.2 (by simp [haf]) hfb
      have HEE := Lib.hid hE
      clear haf hfb hM hB hv hE
      obtain ⟨va, vc, hvs⟩ := row_slice (show RowB _ (vs 14) _ wv from HEE.out)
      rw [show ((((encN 4 a ++ encN 4 b) ++ encN 4 c) ++ encN 4 d)).length = 16 by simp [encN_len]] at hvs
      rw [HLIT.out]
      go_simp
      exact hK.out _ _ (EJ.chain (wv := wv) (s := 7) 15 (by unfold NC; decide) (x := vs 14) (by rw [HLIT.out]; simp only [upv, hvs, Nat.reduceBEq, cond_true, cond_false]) HM.out (CB.next 15 7 HBB.out rfl (by decide)) HVV.out (show RowB _ (vs 14) _ wv from HEE.out))
  · intro bf ac wv hall hJ
    obtain ⟨s, vs, rfl, hM, hB, hv, hE⟩ := hJ
    have h7 := hB.2.2.2.2.2.2.2
    rw [hall 15 (by decide)] at h7
    have h8 : s = 8 + (s - 8) := by have := of_decide_eq_true h7.symm; omega
    have hrz : RowB w1.heap.size (vs 15) (((encN 4 a ++ encN 4 b) ++ encN 4 c) ++ encN 4 d) wv := by rw [h8, Nat.add_comm] at hE; exact hE
    clear h7 h8 hE hB hv hall
    obtain ⟨va, vc, hvs⟩ := row_slice hrz
    rw [show ((((encN 4 a ++ encN 4 b) ++ encN 4 c) ++ encN 4 d)).length = 16 by simp [encN_len]] at hvs
    rw [hvs] at hrz
    rw [HLIT.out]
    dsimp only
    rw [hvs]
    clear hvs HLIT E0 E1 E3 E4 E7 E8 E11 E12
    have h32 := (va_parts HV.out).2.2.2.2.2.1
    have HR := Lib.hid (show RowB w1.heap.size (.slice va 16 vc) (encA a b c d) wv by rw [encA_is]; exact hrz)
    have HM := Lib.hid hM
    have HC2 := Lib.hid (HCC.out.step hM)
    have HSZ := Lib.hid hM.size
    have HH := Lib.hid h32
    clear hrz hM
    have x0 := HC2.out.c 0 rfl
    have x4 := HC2.out.c 4 rfl
    have xz := HC2.out.2.2
    have u1 : IntKind.u8.wrap (l.length : Int) = l.length := IntWalk.u8_in _ (by have := HH.out; omega)
    have hb1 := (al wv (.cells #[.int .u8 (l.length : Int)] 5))
    have hl1 : RowB w1.heap.size (.slice (some ⟨wv.heap.size, 0, none⟩) 1 1) (encs 1 [(l.length : Int)]) (wv.alloc (.cells #[.int .u8 (l.length : Int)] 5)) := by
      have := bylit wv (encs 1 [(l.length : Int)]) #[.int .u8 (l.length : Int)] 1 (by rw [enc1 _ (by omega) (by omega)]; rfl) (by rw [encs_len]; rfl) (by decide)
      unfold RowB
      rw [show (encs 1 [(l.length : Int)]).length = 1 by rw [encs_len]; rfl]
      exact row_base0 this HSZ.out
    obtain ⟨v5, w5, q5, ho5, hg5⟩ := run_appBB _ w1.heap.size (.slice va 16 vc) _ _ _ 25 (HR.out.step hb1) hl1 (by rw [encs_len]; simp) (by rw [encs_len, encA_len]; simp) (Nat.le_trans HSZ.out hb1.size)
    have HB5 := Lib.hid ((keep2 hb1 HM.out).grown hg5 (Nat.le_trans HSZ.out hb1.size) (fun k e => row_own HR.out e))
    have HO5 := Lib.hid (show RowB w1.heap.size v5 (encB a b c d l.length) w5 from ho5)
    obtain ⟨a5, c5, hv5⟩ := row_slice ho5
    rw [show (encA a b c d ++ encs 1 [(l.length : Int)]).length = 17 by rw [List.length_append, encs_len, encA_len]; rfl] at hv5
    subst hv5
    clear hg5 ho5 hl1 hb1
    go_wp2_with (at_builtin; refine wpList_appI rfl _ _ 25 rfl _ _ (.slice a5 17 c5) rfl rfl q5 ?_)
    clear x0 x4 xz u1 q5 h32
    go_loopw [3, 4] (fun v iv wr => ∃ k : Nat, k ≤ l.length ∧ iv = .int .i64 k ∧ Hid (RowB w1.heap.size v (encB a b c d l.length ++ encs 4 ((l.take k).map (· + 1000000000))) wr) ∧ Hid (Below w1.heap.size w1 wr)) (fun _ iv _ => l.length - (intOf iv).toNat)
    case atStart => exact ⟨0, by omega, rfl, Lib.hid (by simpa [encs] using HO5.out), HB5⟩
    case round =>
      clear HO5 HB5 HR HM HC2 HSZ
      obtain ⟨k, hk, rfl, HO, HW⟩ := hrel
      have HC3 := Lib.hid (HCC.out.step HW.out)
      have HSZ := Lib.hid HW.out.size
      have HL3 := Lib.hid (HL2.out.step HW.out)
      have x0 := HC3.out.c 0 rfl
      have x4 := HC3.out.c 4 rfl
      have x5 := HC3.out.c 5 rfl
      have xz := HC3.out.2.2
      have HEL := Lib.hid (show (encB a b c d l.length ++ encs 4 ((l.take k).map (· + 1000000000))).length = 17 + 4 * k by rw [List.length_append, encB_len, encs_len, List.length_map, List.length_take]; omega)
      have hrw : ∃ va vc, _ := row_slice HO.out
      rw [HEL.out] at hrw
      obtain ⟨va, vc, rfl⟩ := hrw
      have hk3 : k ≤ 32 := by have := HH.out; omega
      have HK3 := Lib.hid hk3
      by_cases hlt : k < l.length
      · obtain ⟨a1, c1, hv1, -, hcs1⟩ := HL3.out
        obtain ⟨rfl, rfl⟩ : sa = a1 ∧ sc = c1 := by simpa using hv1
        obtain ⟨b1, o1, rfl, hx1⟩ := hcs1 (by intro e; rw [e] at hlt; simp at hlt)
        have y0 := hx1 k _ (getD_of hlt)
        have yz : b1 < wr.heap.size := World.block_lt_of_cell? _ _ y0
        have t1 : (k : Int) < (l.length : Int) := by omega
        have hxb := any_no (va_parts HV.out).2.2.2.2.1 hlt
        have HT := Lib.hid (show encs 4 ((l.take (k + 1)).map (· + 1000000000)) = encs 4 ((l.take k).map (· + 1000000000)) ++ encN 4 (l.getD k 0 + 1000000000) by
          rw [List.take_succ_eq_append_getElem hlt, List.map_append]
          unfold encs
          rw [List.flatMap_append]
          simp [hlt])
        obtain ⟨x, hx⟩ : ∃ x, l.getD k 0 = x := ⟨_, rfl⟩
        rw [hx] at y0 hxb HT
        have hw : wrap64 (x + 1000000000) = x + 1000000000 := IntWalk.wrap64_in _ (by omega)
        have HXB := Lib.hid hxb
        clear hcs1 hx1 hv1 hx hxb
        go_wp2_with fail
        refine (four_any (x + 1000000000) _ (by have := HXB.out; omega) (by have := HXB.out; omega)).mono ?_
        rintro e w3 ⟨u, rfl, hu, b3⟩
        have hq : RowB w1.heap.size u (encN 4 (x + 1000000000)) w3 := by unfold RowB; rw [encN_len]; exact row_base0 hu HSZ.out
        have ho3 := HO.out.step b3
        obtain ⟨v5, w5, q5, ho5, hg5⟩ := run_appBB w3 w1.heap.size _ u _ _ 25 ho3 hq (by rw [encN_len]; decide) (by rw [encN_len, HEL.out]; have := HK3.out; omega) (Nat.le_trans HSZ.out b3.size)
        have HB5 := Lib.hid ((keep2 b3 HW.out).grown hg5 (Nat.le_trans HSZ.out b3.size) (fun k e => row_own ho3 e))
        have HO5 := Lib.hid ho5
        obtain ⟨ua, uc, hus⟩ := row_slice hq
        rw [encN_len] at hus
        subst hus
        have hv5 := row_slice ho5
        rw [show ((encB a b c d l.length ++ encs 4 ((l.take k).map (· + 1000000000))) ++ encN 4 (x + 1000000000)).length = 17 + 4 * k + 4 by rw [List.length_append, HEL.out, encN_len]] at hv5
        obtain ⟨a5, c5, rfl⟩ := hv5
        clear hg5 ho5 hq hu ho3 b3
        go_wp2_with (at_builtin; refine wpList_appI rfl _ _ 25 rfl _ _ (.slice a5 (17 + 4 * k + 4) c5) rfl rfl q5 ?_)
        clear q5
        go_roundw
        case rel => exact ⟨k + 1, hlt, by go_num, Lib.hid (by rw [HT.out, ← List.append_assoc]; exact HO5.out), HB5⟩
        case measure => simp [intOf]; omega
      · obtain rfl : k = l.length := by omega
        have HOC := Lib.hid (show RowB w1.heap.size (.slice va (17 + 4 * l.length) vc) (encC a b c d l) wr by have h := HO.out; rw [List.take_of_length_le (Nat.le_refl _)] at h; exact h)
        clear HO HEL hlt
        have HT := Lib.hid (va_parts HV.out).2.2.2.2.2.2
        go_wp2_with fail
        refine (four_any t _ (by have := HT.out; omega) (by have := HT.out; omega)).mono ?_
        rintro e w3 ⟨u, rfl, hu, b3⟩
        have hq : RowB w1.heap.size u (encs 4 [t]) w3 := by unfold RowB; rw [encs_len, show encs 4 [t] = encN 4 t by simp [encs]]; exact row_base0 hu HSZ.out
        have ho3 := HOC.out.step b3
        obtain ⟨v5, w5, q5, ho5, hg5⟩ := run_appBB w3 w1.heap.size _ u _ _ 25 ho3 hq (by rw [encs_len]; simp) (by rw [encs_len, encC_len]; have := HK3.out; simp; omega) (Nat.le_trans HSZ.out b3.size)
        have HB5 := Lib.hid ((keep2 b3 HW.out).grown hg5 (Nat.le_trans HSZ.out b3.size) (fun k e => row_own ho3 e))
        have HO5 := Lib.hid (show RowB w1.heap.size v5 (encD a b c d l t) w5 from ho5)
        obtain ⟨ua, uc, hus⟩ := row_slice hq
        rw [encs_len] at hus
        subst hus
        obtain ⟨a5, c5, hv5⟩ := row_slice HO5.out
        rw [encD_len] at hv5
        subst hv5
        clear hg5 ho5 hq hu ho3 b3 HOC
        go_wp2_with (at_builtin; refine wpList_appI rfl _ _ 25 rfl _ _ (.slice a5 (21 + 4 * l.length) c5) rfl rfl q5 ?_)
        clear q5 x0 x4 x5 xz
        refine (rsum2_any _ (encD a b c d l t) _ HO5.out.bys (encD_by _ _ _ _ _ _) (by rw [encD_len]; have := HK3.out; omega)).mono ?_
        rintro e w6 ⟨u2, rfl, hu2, b6⟩
        have hq : RowB w1.heap.size u2 (encs 2 [sumL (encD a b c d l t) % 65521]) w6 := by unfold RowB; rw [encs_len, show encs 2 [sumL (encD a b c d l t) % 65521] = encN 2 (sumL (encD a b c d l t) % 65521) by simp [encs]]; exact row_base0 hu2 HB5.out.size
        have ho3 := HO5.out.step b6
        obtain ⟨v7, w7, q7, ho7, hg7⟩ := run_appBB w6 w1.heap.size _ u2 _ _ 25 ho3 hq (by rw [encs_len]; simp) (by rw [encs_len, encD_len]; have := HK3.out; simp; omega) (Nat.le_trans HB5.out.size b6.size)
        have HB7 := Lib.hid ((keep2 b6 HB5.out).grown hg7 (Nat.le_trans HB5.out.size b6.size) (fun k e => row_own ho3 e))
        have HO7 := Lib.hid (show RowB w1.heap.size v7 (encF a b c d l t) w7 from ho7)
        obtain ⟨ua2, uc2, hus2⟩ := row_slice hq
        rw [encs_len] at hus2
        subst hus2
        obtain ⟨a7, c7, hv7⟩ := row_slice HO7.out
        obtain ⟨m7, hm7⟩ : ∃ z, (encF a b c d l t).length = z := ⟨_, rfl⟩
        rw [hm7] at hv7
        have HM7 := Lib.hid hm7
        subst hv7
        clear hg7 ho7 hq hu2 ho3 b6 hm7
        go_wp2_with (at_builtin; refine wpList_appI rfl _ _ 25 rfl _ _ (.slice a7 m7 c7) rfl rfl q7 ?_)
        go_ret
        exact ⟨_, rfl, row_base0 HO7.out HB1.out.size, keep2 HB7.out HB1.out⟩
theorem rencode_any (a b c d : Int) (sl : Value) (l : List Int) (t : Int) (w : World) (h : IntsAt w sl l) : Calls Try.prog 23 #[.agg #[.int .i64 a, .int .i64 b, .int .i64 c, .int .i64 d, sl, .int .i64 t]] w fun e w' => ∃ u, e = .returned u ∧ w'.ownsRow w.heap.size 5 1 u (encO a b c d l t).length ((encO a b c d l t).map (Value.int .u8)) ∧ Below w.heap.size w w' := by
  unfold encO
  cases hv : vaB a b c d l t
  · rw [if_neg (by decide)]
    exact (rencode_no a b c d sl l t w h hv).mono fun e w' ⟨h1, h2⟩ => ⟨_, h1, World.ownsRow_nil _ _ _ _, h2⟩
  · rw [if_pos rfl]
    exact rencode_yes a b c d sl l t w h hv
end Go.Proofs.Ytebeaekiaikgmaa
