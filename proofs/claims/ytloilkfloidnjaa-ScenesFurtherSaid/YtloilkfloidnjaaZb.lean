/- The walk of ScenesFurther. -/
import Derived.Test.YtloilkfloidnjaaZa
namespace Go.Proofs.Ytloilkfloidnjaa
open Go.RowKit Go.WideMaps

theorem mod_nat (x : Int) (n : Nat) (h0 : 0 ≤ x) (hn : 0 < n) : ∃ p : Nat, x % (n : Int) = (p : Int) ∧ p < n := by
  have h1 := Int.emod_nonneg x (show (n : Int) ≠ 0 by omega)
  have h2 := Int.emod_lt_of_pos x (show (0 : Int) < n by omega)
  exact ⟨(x % (n : Int)).toNat, by omega, by omega⟩
/-- 'Last' of the scene with an index, in later worlds. -/
theorem last_of {W0 : World} {b off : Nat} {L : List Scn} (h : ScnCells W0 b off L) {q : Nat} (hq : q < L.length) (d a : ByteArray) :
    ∃ qn ql sa ln sc xd xa xn xt xu, W0.cell? ⟨b, off + q * 3, none⟩ = some (.string qn) ∧ W0.cell? ⟨b, off + q * 3 + 1, none⟩ = some (.int .i64 ql) ∧ W0.cell? ⟨b, off + q * 3 + 2, none⟩ = some (.slice sa ln sc) ∧ ql = lyr L q ∧
      (∀ W, Below W0.heap.size W0 W → Calls Try.prog 18 #[.agg #[.string qn, .int .i64 ql, .slice sa ln sc], .agg #[.string d, .string a]] W fun e W' => e = .returned (.tuple #[.agg #[.string xd, .string xa, .string xn, .int .i64 xt, .string xu], .bool (lI (stN L q) d a).isSome]) ∧ Below W.heap.size W W') := by
  obtain ⟨s0, s1, sa, sc, s2, hss⟩ := h q hq
  obtain ⟨xd, xa, xn, xt, xu, hy⟩ : ∃ yd ya yn yt yu, sAt (stN L q) (lI (stN L q) d a) = ⟨yd, ya, yn, yt, yu⟩ := ⟨_, _, _, _, _, rfl⟩
  refine ⟨_, _, sa, _, sc, xd, xa, xn, xt, xu, s0, s1, s2, rfl, fun W hW => ?_⟩
  have := last_any (L.getD q zN).name (lyr L q) (.slice sa (stN L q).length sc) (stN L q) d a W (hss.step hW)
  unfold LastPost at this
  rw [hy] at this
  exact this
abbrev cE : Obj := .cells #[] 9
/-- An append at a step of a region that draws, its run being known. -/
theorem step_append_run {P : Program} {w : World} {ops : Array Oper} {o : Oper} {a : Act} {K : Act → World → Prop} {Q : Exit → Act → World → Prop} {E : Prop} {v' : Value} {w' : World} (hgd : o.guard = Option.none) (s y : Operand) (t : TypeId)
    (ho : o.op = .call { callee := .builtin .append, args := #[s, y], argTypes := #[t, t] }) (v : Value) (hs : a.eval s = v) (x : Value) (hx : a.eval y = x)
    (hr : (Builtin.append_ #[t, t] o.type #[v, x]).run P w = .ok v' w') (h : K (a.put o.dst v') w') :
    if Region.wanted o (yielded ops a.tmps) = true then Oper.wp P o a w K Q else E := by
  have hw : Region.wanted o (yielded ops a.tmps) = true := by simp [Region.wanted, hgd]
  rw [if_pos hw]
  unfold Oper.wp execOp
  simp only [ho, resolve, invoke, builtin, Sem.run_bind, Sem.run_pure, Result.andThen_ok, List.map_toArray, List.map_cons, List.map_nil, hs, hx, hr]
  exact h
set_option maxRecDepth 100000 in
set_option maxHeartbeats 8000000 in
theorem further_walk (v : Value) (L : List Scn) (vn : Value) (N : List ByteArray) (x1 : Int) (d a : ByteArray) (w : World) (h : ScnsAt w v L) (hk : ∀ x ∈ L, x.ok) (hn : NamesAt w vn N) (hnk : ∀ x ∈ N, x.size ≤ maxLen) (h10 : 0 ≤ x1) (h11 : x1 ≤ 255) (hd : d.size ≤ maxLen) (ha : a.size ≤ maxLen) :
    Calls Try.prog 8 #[v, vn, .int .u8 x1, .agg #[.string d, .string a]] w fun e w' => e = .returned (.bool true) ∧ Below w.heap.size w w' := by
  have B1 := al w (.cells #[.string d, .string a] 25)
  have HS := Lib.hid (h.step B1)
  have HN := Lib.hid (hn.step B1)
  have HB1 := Lib.hid B1
  have HC0 := Lib.hid (cell_new' w #[.string d, .string a] 25 _ rfl 0)
  have HC1 := Lib.hid (cell_new' w #[.string d, .string a] 25 _ rfl 1)
  clear B1
  have HF := Lib.hid (fun hf => few_fit (L := L) (N := N) hf hk hnk)
  obtain ⟨a1, c1, rfl, -⟩ := h.open
  obtain ⟨an, cn, rfl, -, -⟩ := hn
  clear h hk hnk
  go_enter Try.func8, Try.ntmps8
  go_wp2_with fail
  refine (head_any _).mono ?_
  rintro e w2 ⟨rfl, b2⟩
  have HS2 := Lib.hid (HS.out.step b2)
  have HN2 := Lib.hid (HN.out.step b2)
  have HB2 := Lib.hid (keep2 b2 HB1.out)
  have C0 := Lib.hid (keep1 b2 HC0.out)
  have C1 := Lib.hid (keep1 b2 HC1.out)
  clear b2
  go_wp2_with fail
  refine (few_call HS2.out HN2.out).mono ?_
  rintro e w3 ⟨rfl, rfl⟩
  cases hf : few L N.length
  · go_wp2
    go_ret
    exact ⟨rfl, HB2.out⟩
  have FT := Lib.hid (HF.out hf)
  go_wp2_with fail
  refine (known_any _ _ L N _ HS2.out HN2.out).mono ?_
  rintro e w4 ⟨rfl, rfl⟩
  cases hkn : kn L N
  · go_wp2
    go_ret
    exact ⟨rfl, HB2.out⟩
  by_cases hN19 : ¬ N.length ≤ 19
  · have g19 : decide ((19 : Int) < (N.length : Int)) = true := by rw [decide_eq_true_iff]; omega
    go_wp2
    go_ret
    exact ⟨rfl, HB2.out⟩
  have g19 : decide ((19 : Int) < (N.length : Int)) = false := by rw [decide_eq_false_iff_not]; omega
  by_cases hL0 : L.length = 0
  · have hle : ((L.length : Int) == 0) = true := by simp [hL0]
    go_wp2
    go_ret
    exact ⟨rfl, HB2.out⟩
  have hle : ((L.length : Int) == 0) = false := by rw [beq_eq_false_iff_ne]; omega
  have HK := Lib.hid hkn
  obtain ⟨aa, cap, hae, hsx⟩ := HS2.out.open
  simp only [Value.slice.injEq, true_and] at hae
  obtain ⟨rfl, rfl⟩ := hae
  obtain ⟨b, off, rfl, hsc⟩ := hsx (by intro h; rw [h] at hL0; simp at hL0)
  obtain ⟨p, hmod, hp⟩ := mod_nat x1 L.length h10 (by omega)
  have hpi : (p : Int) < L.length := by omega
  obtain ⟨n0, -, -⟩ := hsc p hp
  obtain ⟨k, hfk⟩ : ∃ k, fI L (L.getD p zN).name = some k := by
    cases hfi : fI L (L.getD p zN).name with
    | some k => exact ⟨k, rfl⟩
    | none =>
      unfold fI at hfi
      rw [List.findIdx?_eq_none_iff] at hfi
      have := hfi _ (scn_mem hp)
      rw [sE_iff.2 rfl] at this; cases this
  have hkl := fI_lt hfk
  have hki : (k : Int) < L.length := by omega
  have hnsz : (L.getD p zN).name.size ≤ maxLen := (FT.out.ok _ (scn_mem hp)).1
  have FT2 : Hid (Fit L (N ++ [(L.getD p zN).name])) := Lib.hid ⟨FT.out.ok, FT.out.sets, FT.out.len, fun x hx => by
    rcases List.mem_append.1 hx with h | h
    · exact FT.out.sizes x h
    · simp at h; rw [h]; exact hnsz, by simp; omega⟩
  have HC := Lib.hid hsc
  have HIX := Lib.hid (show fInt (fI L (L.getD p zN).name) = (k : Int) by rw [hfk]; rfl)
  have HMORE := Lib.hid (rW_more HK.out hfk (d := d) (a := a))
  have HQ := Lib.hid (show rW L N d a = -1 ∨ ∃ q : Nat, rW L N d a = q ∧ q < L.length from by
    have hr : rW L N d a = rwN L N d a N.length := by unfold rW; rw [HK.out]; rfl
    rw [hr]; exact rwN_range HK.out d a N.length (Nat.le_refl _))
  have z0 := C0.out
  have z1 := C1.out
  simp at z0 z1
  have HW0 := Lib.hid (wins_any _ _ L N d a _ HS2.out HN2.out FT.out hd ha)
  rw [wI_eq] at HW0
  clear hsx hsc hfk hkn hf
  generalize (L.getD p zN).name = nm at *
  go_wp2_with (go_at_call 21; go_must (refine (find_any _ L nm _ HS2.out).mono ?_); rintro e wf ⟨rfl, rfl⟩; rw [HIX.out])
  refine HW0.out.mono ?_
  rintro e w5 ⟨rfl, b5⟩
  have HS5 := Lib.hid (HS2.out.step b5)
  have HN5 := Lib.hid (HN2.out.step b5)
  have HC5 := Lib.hid (HC.out.step b5)
  have HB5 := Lib.hid (keep2 b5 HB2.out)
  have r0 := keep1 b5 z0
  have r1 := keep1 b5 z1
  have HW2 : Hid (∀ W (gB cB : Nat), Below w5.heap.size w5 W → NamesAt W (.slice (some ⟨gB, 0, none⟩) (N.length + 1) cB) (N ++ [nm]) → Calls Try.prog 16 #[.slice (some ⟨b, off, none⟩) L.length c1, .slice (some ⟨gB, 0, none⟩) (N.length + 1) cB, .agg #[.string d, .string a]] W fun e w' => e = .returned (.int .i64 (rW L (N ++ [nm]) d a)) ∧ Below W.heap.size W w') := Lib.hid (fun W gB cB hW hnW => by
    rw [← wI_eq]
    exact wins_any _ _ L (N ++ [nm]) d a W (HS5.out.step hW) hnW FT2.out hd ha)
  clear b5 z0 z1
  -- the three orders
  have bE := al w5 cE
  have bEN := bE.alloc bE.size (.cells #[.string nm] 9)
  have bN := al w5 (.cells #[.string nm] 9)
  have bNE := bN.alloc bN.size cE
  have rowE : (w5.alloc cE).ownsRow w5.heap.size 9 1 (.slice (some ⟨w5.heap.size, 0, none⟩) 0 0) 0 [] := World.ownsRow_lit (base := w5.heap.size) (size := 1) (e := 9) w5 #[] 0 (Nat.le_refl _) (by unfold maxLen; omega) rfl
  have rowNE : ((w5.alloc (.cells #[.string nm] 9)).alloc cE).ownsRow w5.heap.size 9 1 (.slice (some ⟨w5.heap.size + 1, 0, none⟩) 0 0) 0 [] := by
    have := World.ownsRow_lit (base := w5.heap.size) (size := 1) (e := 9) (w5.alloc (.cells #[.string nm] 9)) #[] 0 (by simp) (by unfold maxLen; omega) rfl
    simpa using this
  obtain ⟨gA1, cA1, XA1, gB1, cB1, XB1, e1, f1, hA1, hB1', hN1⟩ := app_late (X := (w5.alloc cE).drew) HN5.out (nm := nm) (by have := FT.out.names; omega) (bE.trans (below_drew _ _)) rowE
  obtain ⟨gA2, cA2, XA2, gB2, cB2, XB2, e2, f2, hA2, hB2', hN2'⟩ := app_both (X := ((w5.alloc (.cells #[.string nm] 9)).alloc cE).drew) (b := w5.heap.size) HN5.out (nm := nm) (by have := FT.out.names; omega) (bNE.trans (below_drew _ _)) rowNE (show ((w5.alloc (.cells #[.string nm] 9)).alloc cE).cell? ⟨w5.heap.size, 0, none⟩ = some (.string nm) from keep1 (al _ cE) (cell_new' w5 #[.string nm] 9 _ rfl 0)) (by omega)
  obtain ⟨gA3, cA3, XA3, gB3, cB3, XB3, e3, f3, hA3, hB3', hN3'⟩ := app_both (X := ((w5.alloc cE).alloc (.cells #[.string nm] 9)).drew) (b := w5.heap.size + 1) HN5.out (nm := nm) (by have := FT.out.names; omega) (bEN.trans (below_drew _ _)) (rowE.alloc (.cells #[.string nm] 9)) (show ((w5.alloc cE).alloc (.cells #[.string nm] 9)).cell? ⟨w5.heap.size + 1, 0, none⟩ = some (.string nm) from cell_new' (w5.alloc cE) #[.string nm] 9 _ (by simp) 0) (by omega)
  have E1 := Lib.hid e1
  have E2 := Lib.hid e2
  have E3 := Lib.hid e3
  have F1 := Lib.hid f1
  have F2 := Lib.hid f2
  have F3 := Lib.hid f3
  clear e1 e2 e3 f1 f2 f3
  have HCA := Lib.hid (HW2.out XB1 gB1 cB1 hB1' hN1)
  have HCB := Lib.hid (HW2.out XB2 gB2 cB2 hB2' hN2')
  have HCC := Lib.hid (HW2.out XB3 gB3 cB3 hB3' hN3')
  have hA1c := hA1.alloc hA1.size (.cells #[.string nm] 9)
  have ra0 := keep1 bE r0
  have rb0 := keep1 bE r1
  have ra1 := keep1 bN r0
  have rb1 := keep1 bN r1
  have ra2 := keep1 bEN r0
  have rb2 := keep1 bEN r1
  have ra3 := keep1 bNE r0
  have rb3 := keep1 bNE r1
  have ra4 := keep1 hA1 r0
  have rb4 := keep1 hA1 r1
  have ra5 := keep1 hA1c r0
  have rb5 := keep1 hA1c r1
  have ra6 := keep1 hA2 r0
  have rb6 := keep1 hA2 r1
  have ra7 := keep1 hA3 r0
  have rb7 := keep1 hA3 r1
  have ra8 := keep1 hB1' r0
  have rb8 := keep1 hB1' r1
  have ra9 := keep1 hB2' r0
  have rb9 := keep1 hB2' r1
  have ra10 := keep1 hB3' r0
  have rb10 := keep1 hB3' r1
  have HBB1 := Lib.hid hB1'
  have HBB2 := Lib.hid hB2'
  have HBB3 := Lib.hid hB3'
  clear bE bEN bN bNE rowE rowNE hA1 hA2 hA3 hA1c hB1' hB2' hB3' hN1 hN2' hN3'
  go_upto_region 7 with fail
  go_cut [13] from 54 to 62 (fun p wc => p = .int .i64 (rW L (N ++ [nm]) d a) ∧ Below w5.heap.size w5 wc)
  case first =>
    go_region_law (first | (refine step_append_run (v' := .slice (some ⟨gA1, 0, none⟩) N.length cA1) (w' := XA1) rfl _ _ 23 rfl (.slice (some ⟨w5.heap.size, 0, none⟩) 0 0) rfl (.slice an N.length cn) rfl (by with_reducible exact E1.out) ?_) | (refine step_append_run (v' := .slice (some ⟨gA3, 0, none⟩) N.length cA3) (w' := XA3) rfl _ _ 23 rfl (.slice (some ⟨w5.heap.size, 0, none⟩) 0 0) rfl (.slice an N.length cn) rfl (by with_reducible exact E3.out) ?_) | (refine step_append_run (v' := .slice (some ⟨gA2, 0, none⟩) N.length cA2) (w' := XA2) rfl _ _ 23 rfl (.slice (some ⟨w5.heap.size + 1, 0, none⟩) 0 0) rfl (.slice an N.length cn) rfl (by with_reducible exact E2.out) ?_) | (refine step_append_run (v' := .slice (some ⟨gB1, 0, none⟩) (N.length + 1) cB1) (w' := XB1) rfl _ _ 23 rfl (.slice (some ⟨gA1, 0, none⟩) N.length cA1) rfl (.slice (some ⟨XA1.heap.size, 0, none⟩) 1 1) rfl (by with_reducible exact F1.out) ?_) | (refine step_append_run (v' := .slice (some ⟨gB2, 0, none⟩) (N.length + 1) cB2) (w' := XB2) rfl _ _ 23 rfl (.slice (some ⟨gA2, 0, none⟩) N.length cA2) rfl (.slice (some ⟨w5.heap.size, 0, none⟩) 1 1) rfl (by with_reducible exact F2.out) ?_) | (refine step_append_run (v' := .slice (some ⟨gB3, 0, none⟩) (N.length + 1) cB3) (w' := XB3) rfl _ _ 23 rfl (.slice (some ⟨gA3, 0, none⟩) N.length cA3) rfl (.slice (some ⟨w5.heap.size + 1, 0, none⟩) 1 1) rfl (by with_reducible exact F3.out) ?_) | (go_simp; go_at_call 16; first | (with_reducible refine HCA.out.mono ?_; rintro e w6 ⟨rfl, b6⟩; have HE := Lib.hid (keep2 b6 HBB1.out); clear b6) | (with_reducible refine HCB.out.mono ?_; rintro e w6 ⟨rfl, b6⟩; have HE := Lib.hid (keep2 b6 HBB2.out); clear b6) | (with_reducible refine HCC.out.mono ?_; rintro e w6 ⟨rfl, b6⟩; have HE := Lib.hid (keep2 b6 HBB3.out); clear b6)))
    all_goals
      go_wp2_with fail
      go_meet
      exact ⟨rfl, HE.out⟩
  case rest =>
    obtain ⟨rfl, hBX⟩ := hcut
    have HBX := Lib.hid (keep2 hBX HB5.out)
    obtain ⟨w8, e8⟩ : ∃ w8, w8 = wc := ⟨_, rfl⟩
    subst e8
    have t0 := keep1 hBX r0
    have t1 := keep1 hBX r1
    obtain ⟨-, hm2⟩ := HMORE.out
    have HSC8 := Lib.hid (HC5.out.step hBX)
    obtain ⟨qn, ql, sa, ln, sc, xd, xa, xn, xt, xu, s0, s1, s2, hqy, hlast⟩ := last_of HSC8.out hkl d a
    generalize (lI (stN L k) d a).isSome = st at *
    have HLast := Lib.hid hlast
    have hq := HQ.out
    rw [← hqy] at hm2
    have HM2 := Lib.hid hm2
    have HQY := Lib.hid hqy
    clear hm2 hqy hlast HQ HMORE r0 r1 hBX
    generalize rW L (N ++ [nm]) d a = rr2 at *
    generalize rW L N d a = rr at *
    rcases hq with rfl | ⟨q, rfl, hql⟩
    · have hb1 : decide ((L.length : Int) ≤ -1) = false := by rw [decide_eq_false_iff_not]; omega
      cases st
      · have he : rr2 = -1 := HM2.out
        subst he
        clear HM2
        have r0 := t0
        have r1 := t1
        go_wp2_with fail
        have hbA : Below w8.heap.size w8 (w8.alloc c40).drew := ((Below.refl _ _).alloc (Nat.le_refl _) _).trans (below_drew _ _)
        have HbA := Lib.hid hbA
        have r0A := keep1 hbA r0
        have r1A := keep1 hbA r1
        have s0A := keep1 hbA s0
        have s1A := keep1 hbA s1
        have s2A := keep1 hbA s2
        have HA : Hid (∀ j, (w8.alloc c40).drew.cell? ⟨w8.heap.size, j, none⟩ = (#[.string ⟨#[]⟩, .string ⟨#[]⟩, .string ⟨#[]⟩, .int .i64 0, .string ⟨#[]⟩] : Array Value)[j]? ∧ (w8.alloc c40).drew.frozen? ⟨w8.heap.size, j, none⟩ = false) :=
          Lib.hid fun j => ⟨cell_new' w8 _ 40 _ rfl j, frozen_new w8 _ 40 j⟩
        clear hbA
        go_upto_region 10 with fail
        go_cut [14, 15] from 67 to 75 (fun p q wc => ∃ n : Nat, p = .pointer (some ⟨n, 0, none⟩) ∧ q = .bool false ∧ Five wc n xd xa xn xt xu ∧ Below w8.heap.size w8 wc)
        case first =>
         go_region_law (first | (go_simp; go_at_call 18; refine (HLast.out _ (by first | exact below_drew _ _ | exact HbA.out)).mono ?_; rintro e w4 ⟨rfl, hb4⟩; have HB4 : Hid (Below w8.heap.size w8 w4) := Lib.hid (by first | exact (below_drew _ _).trans (hb4.mono (by simp)) | exact HbA.out.trans (hb4.mono (by simp))); (first | (have x0 := keep1 hb4 (HA.out 0).1; have x1 := keep1 hb4 (HA.out 1).1; have x2 := keep1 hb4 (HA.out 2).1; have x3 := keep1 hb4 (HA.out 3).1; have x4 := keep1 hb4 (HA.out 4).1; have v0 := keepf hb4 (HA.out 0).1 (HA.out 0).2; have v1 := keepf hb4 (HA.out 1).1 (HA.out 1).2; have v2 := keepf hb4 (HA.out 2).1 (HA.out 2).2; have v3 := keepf hb4 (HA.out 3).1 (HA.out 3).2; have v4 := keepf hb4 (HA.out 4).1 (HA.out 4).2) | skip); clear hb4))
         all_goals
          have hz4 := HB4.out.size
          go_wp2_with fail
          go_meet
          first
            | with_reducible exact ⟨_, rfl, rfl, five_cells x0 x1 x2 x3 x4 _ _ _ _ _, five_set HB4.out (Nat.le_refl _) _ _ _ _ _⟩
            | exact ⟨_, rfl, rfl, five_new _ _ _ _ _ _, HB4.out.alloc hz4 _⟩
        case rest =>
          obtain ⟨n2, rfl, rfl, -, hB9⟩ := hcut
          have HE := Lib.hid (keep2 hB9 HBX.out)
          clear hB9
          go_wp2
          go_quiet (fail)
          go_wp2
          go_ret
          exact ⟨rfl, HE.out.trans (below_drewN' _ _ _)⟩
      · have he : rr2 = (k : Int) := by rw [HM2.out]; rfl
        subst he
        clear HM2
        have r0 := t0
        have r1 := t1
        go_wp2_with fail
        have hbA : Below w8.heap.size w8 (w8.alloc c40).drew := ((Below.refl _ _).alloc (Nat.le_refl _) _).trans (below_drew _ _)
        have HbA := Lib.hid hbA
        have r0A := keep1 hbA r0
        have r1A := keep1 hbA r1
        have s0A := keep1 hbA s0
        have s1A := keep1 hbA s1
        have s2A := keep1 hbA s2
        have HA : Hid (∀ j, (w8.alloc c40).drew.cell? ⟨w8.heap.size, j, none⟩ = (#[.string ⟨#[]⟩, .string ⟨#[]⟩, .string ⟨#[]⟩, .int .i64 0, .string ⟨#[]⟩] : Array Value)[j]? ∧ (w8.alloc c40).drew.frozen? ⟨w8.heap.size, j, none⟩ = false) :=
          Lib.hid fun j => ⟨cell_new' w8 _ 40 _ rfl j, frozen_new w8 _ 40 j⟩
        clear hbA
        go_upto_region 10 with fail
        go_cut [14, 15] from 67 to 75 (fun p q wc => ∃ n : Nat, p = .pointer (some ⟨n, 0, none⟩) ∧ q = .bool true ∧ Five wc n xd xa xn xt xu ∧ Below w8.heap.size w8 wc)
        case first =>
         go_region_law (first | (go_simp; go_at_call 18; refine (HLast.out _ (by first | exact below_drew _ _ | exact HbA.out)).mono ?_; rintro e w4 ⟨rfl, hb4⟩; have HB4 : Hid (Below w8.heap.size w8 w4) := Lib.hid (by first | exact (below_drew _ _).trans (hb4.mono (by simp)) | exact HbA.out.trans (hb4.mono (by simp))); (first | (have x0 := keep1 hb4 (HA.out 0).1; have x1 := keep1 hb4 (HA.out 1).1; have x2 := keep1 hb4 (HA.out 2).1; have x3 := keep1 hb4 (HA.out 3).1; have x4 := keep1 hb4 (HA.out 4).1; have v0 := keepf hb4 (HA.out 0).1 (HA.out 0).2; have v1 := keepf hb4 (HA.out 1).1 (HA.out 1).2; have v2 := keepf hb4 (HA.out 2).1 (HA.out 2).2; have v3 := keepf hb4 (HA.out 3).1 (HA.out 3).2; have v4 := keepf hb4 (HA.out 4).1 (HA.out 4).2) | skip); clear hb4))
         all_goals
          have hz4 := HB4.out.size
          go_wp2_with fail
          go_meet
          first
            | with_reducible exact ⟨_, rfl, rfl, five_cells x0 x1 x2 x3 x4 _ _ _ _ _, five_set HB4.out (Nat.le_refl _) _ _ _ _ _⟩
            | exact ⟨_, rfl, rfl, five_new _ _ _ _ _ _, HB4.out.alloc hz4 _⟩
        case rest =>
          obtain ⟨n2, rfl, rfl, -, hB9⟩ := hcut
          have HE := Lib.hid (keep2 hB9 HBX.out)
          clear hB9
          go_wp2
          go_quiet (fail)
          go_wp2
          go_ret
          exact ⟨rfl, HE.out.trans (below_drewN' _ _ _)⟩
    · have hb1 : decide ((L.length : Int) ≤ (q : Int)) = false := by rw [decide_eq_false_iff_not]; omega
      have hb2 : decide (L.length ≤ q) = false := by rw [decide_eq_false_iff_not]; omega
      have hb3 : decide ((0 : Int) ≤ (q : Int)) = true := by rw [decide_eq_true_iff]; omega
      have hb4 : decide ((q : Int) < 0) = false := by rw [decide_eq_false_iff_not]; omega
      have hqi : (q : Int) < L.length := by omega
      rw [hb4, Int.toNat_natCast, Bool.false_or] at HM2
      obtain ⟨-, l1, -⟩ := HSC8.out q hql
      have HLQ := Lib.hid (show decide (ql < lyr L q) = !decide (lyr L q ≤ ql) by by_cases h : lyr L q ≤ ql <;> simp [h] <;> omega)
      generalize lyr L q = lq at *
      cases st
      · have he : rr2 = (q : Int) := HM2.out
        subst he
        clear HM2
        have r0 := t0
        have r1 := t1
        go_wp2_with fail
        have hbA : Below w8.heap.size w8 (w8.alloc c40).drew := ((Below.refl _ _).alloc (Nat.le_refl _) _).trans (below_drew _ _)
        have HbA := Lib.hid hbA
        have r0A := keep1 hbA r0
        have r1A := keep1 hbA r1
        have s0A := keep1 hbA s0
        have s1A := keep1 hbA s1
        have s2A := keep1 hbA s2
        have HA : Hid (∀ j, (w8.alloc c40).drew.cell? ⟨w8.heap.size, j, none⟩ = (#[.string ⟨#[]⟩, .string ⟨#[]⟩, .string ⟨#[]⟩, .int .i64 0, .string ⟨#[]⟩] : Array Value)[j]? ∧ (w8.alloc c40).drew.frozen? ⟨w8.heap.size, j, none⟩ = false) :=
          Lib.hid fun j => ⟨cell_new' w8 _ 40 _ rfl j, frozen_new w8 _ 40 j⟩
        clear hbA
        go_upto_region 10 with fail
        go_cut [14, 15] from 67 to 75 (fun p q wc => ∃ n : Nat, p = .pointer (some ⟨n, 0, none⟩) ∧ q = .bool false ∧ Five wc n xd xa xn xt xu ∧ Below w8.heap.size w8 wc)
        case first =>
         go_region_law (first | (go_simp; go_at_call 18; refine (HLast.out _ (by first | exact below_drew _ _ | exact HbA.out)).mono ?_; rintro e w4 ⟨rfl, hb4⟩; have HB4 : Hid (Below w8.heap.size w8 w4) := Lib.hid (by first | exact (below_drew _ _).trans (hb4.mono (by simp)) | exact HbA.out.trans (hb4.mono (by simp))); (first | (have x0 := keep1 hb4 (HA.out 0).1; have x1 := keep1 hb4 (HA.out 1).1; have x2 := keep1 hb4 (HA.out 2).1; have x3 := keep1 hb4 (HA.out 3).1; have x4 := keep1 hb4 (HA.out 4).1; have v0 := keepf hb4 (HA.out 0).1 (HA.out 0).2; have v1 := keepf hb4 (HA.out 1).1 (HA.out 1).2; have v2 := keepf hb4 (HA.out 2).1 (HA.out 2).2; have v3 := keepf hb4 (HA.out 3).1 (HA.out 3).2; have v4 := keepf hb4 (HA.out 4).1 (HA.out 4).2) | skip); clear hb4))
         all_goals
          have hz4 := HB4.out.size
          go_wp2_with fail
          go_meet
          first
            | with_reducible exact ⟨_, rfl, rfl, five_cells x0 x1 x2 x3 x4 _ _ _ _ _, five_set HB4.out (Nat.le_refl _) _ _ _ _ _⟩
            | exact ⟨_, rfl, rfl, five_new _ _ _ _ _ _, HB4.out.alloc hz4 _⟩
        case rest =>
          obtain ⟨n2, rfl, rfl, -, hB9⟩ := hcut
          have HE := Lib.hid (keep2 hB9 HBX.out)
          clear hB9
          go_wp2
          go_quiet (fail)
          go_wp2
          go_ret
          exact ⟨rfl, HE.out.trans (below_drewN' _ _ _)⟩
      · cases hc : decide (lq ≤ ql)
        · have he : rr2 = (q : Int) := by rw [HM2.out, hc]; rfl
          have hc2 : decide (ql < lq) = true := by rw [HLQ.out, hc]; rfl
          subst he
          clear HM2
          have r0 := t0
          have r1 := t1
          go_wp2_with fail
          have hbA : Below w8.heap.size w8 (w8.alloc c40).drew := ((Below.refl _ _).alloc (Nat.le_refl _) _).trans (below_drew _ _)
          have HbA := Lib.hid hbA
          have r0A := keep1 hbA r0
          have r1A := keep1 hbA r1
          have s0A := keep1 hbA s0
          have s1A := keep1 hbA s1
          have s2A := keep1 hbA s2
          have HA : Hid (∀ j, (w8.alloc c40).drew.cell? ⟨w8.heap.size, j, none⟩ = (#[.string ⟨#[]⟩, .string ⟨#[]⟩, .string ⟨#[]⟩, .int .i64 0, .string ⟨#[]⟩] : Array Value)[j]? ∧ (w8.alloc c40).drew.frozen? ⟨w8.heap.size, j, none⟩ = false) :=
            Lib.hid fun j => ⟨cell_new' w8 _ 40 _ rfl j, frozen_new w8 _ 40 j⟩
          clear hbA
          go_upto_region 10 with fail
          go_cut [14, 15] from 67 to 75 (fun p q wc => ∃ n : Nat, p = .pointer (some ⟨n, 0, none⟩) ∧ q = .bool true ∧ Five wc n xd xa xn xt xu ∧ Below w8.heap.size w8 wc)
          case first =>
           go_region_law (first | (go_simp; go_at_call 18; refine (HLast.out _ (by first | exact below_drew _ _ | exact HbA.out)).mono ?_; rintro e w4 ⟨rfl, hb4⟩; have HB4 : Hid (Below w8.heap.size w8 w4) := Lib.hid (by first | exact (below_drew _ _).trans (hb4.mono (by simp)) | exact HbA.out.trans (hb4.mono (by simp))); (first | (have x0 := keep1 hb4 (HA.out 0).1; have x1 := keep1 hb4 (HA.out 1).1; have x2 := keep1 hb4 (HA.out 2).1; have x3 := keep1 hb4 (HA.out 3).1; have x4 := keep1 hb4 (HA.out 4).1; have v0 := keepf hb4 (HA.out 0).1 (HA.out 0).2; have v1 := keepf hb4 (HA.out 1).1 (HA.out 1).2; have v2 := keepf hb4 (HA.out 2).1 (HA.out 2).2; have v3 := keepf hb4 (HA.out 3).1 (HA.out 3).2; have v4 := keepf hb4 (HA.out 4).1 (HA.out 4).2) | skip); clear hb4))
           all_goals
            have hz4 := HB4.out.size
            go_wp2_with fail
            go_meet
            first
              | with_reducible exact ⟨_, rfl, rfl, five_cells x0 x1 x2 x3 x4 _ _ _ _ _, five_set HB4.out (Nat.le_refl _) _ _ _ _ _⟩
              | exact ⟨_, rfl, rfl, five_new _ _ _ _ _ _, HB4.out.alloc hz4 _⟩
          case rest =>
            obtain ⟨n2, rfl, rfl, -, hB9⟩ := hcut
            have HE := Lib.hid (keep2 hB9 HBX.out)
            have u1 := keep1 hB9 s1
            have u2 := keep1 hB9 l1
            clear hB9 s0 s1 s2 l1
            go_wp2
            go_quiet (fail)
            go_wp2
            go_ret
            exact ⟨rfl, HE.out.trans (below_drewN' _ _ _)⟩
        · have he : rr2 = (k : Int) := by rw [HM2.out, hc]; rfl
          have hc2 : decide (ql < lq) = false := by rw [HLQ.out, hc]; rfl
          subst he
          clear HM2
          have r0 := t0
          have r1 := t1
          go_wp2_with fail
          have hbA : Below w8.heap.size w8 (w8.alloc c40).drew := ((Below.refl _ _).alloc (Nat.le_refl _) _).trans (below_drew _ _)
          have HbA := Lib.hid hbA
          have r0A := keep1 hbA r0
          have r1A := keep1 hbA r1
          have s0A := keep1 hbA s0
          have s1A := keep1 hbA s1
          have s2A := keep1 hbA s2
          have HA : Hid (∀ j, (w8.alloc c40).drew.cell? ⟨w8.heap.size, j, none⟩ = (#[.string ⟨#[]⟩, .string ⟨#[]⟩, .string ⟨#[]⟩, .int .i64 0, .string ⟨#[]⟩] : Array Value)[j]? ∧ (w8.alloc c40).drew.frozen? ⟨w8.heap.size, j, none⟩ = false) :=
            Lib.hid fun j => ⟨cell_new' w8 _ 40 _ rfl j, frozen_new w8 _ 40 j⟩
          clear hbA
          go_upto_region 10 with fail
          go_cut [14, 15] from 67 to 75 (fun p q wc => ∃ n : Nat, p = .pointer (some ⟨n, 0, none⟩) ∧ q = .bool true ∧ Five wc n xd xa xn xt xu ∧ Below w8.heap.size w8 wc)
          case first =>
           go_region_law (first | (go_simp; go_at_call 18; refine (HLast.out _ (by first | exact below_drew _ _ | exact HbA.out)).mono ?_; rintro e w4 ⟨rfl, hb4⟩; have HB4 : Hid (Below w8.heap.size w8 w4) := Lib.hid (by first | exact (below_drew _ _).trans (hb4.mono (by simp)) | exact HbA.out.trans (hb4.mono (by simp))); (first | (have x0 := keep1 hb4 (HA.out 0).1; have x1 := keep1 hb4 (HA.out 1).1; have x2 := keep1 hb4 (HA.out 2).1; have x3 := keep1 hb4 (HA.out 3).1; have x4 := keep1 hb4 (HA.out 4).1; have v0 := keepf hb4 (HA.out 0).1 (HA.out 0).2; have v1 := keepf hb4 (HA.out 1).1 (HA.out 1).2; have v2 := keepf hb4 (HA.out 2).1 (HA.out 2).2; have v3 := keepf hb4 (HA.out 3).1 (HA.out 3).2; have v4 := keepf hb4 (HA.out 4).1 (HA.out 4).2) | skip); clear hb4))
           all_goals
            have hz4 := HB4.out.size
            go_wp2_with fail
            go_meet
            first
              | with_reducible exact ⟨_, rfl, rfl, five_cells x0 x1 x2 x3 x4 _ _ _ _ _, five_set HB4.out (Nat.le_refl _) _ _ _ _ _⟩
              | exact ⟨_, rfl, rfl, five_new _ _ _ _ _ _, HB4.out.alloc hz4 _⟩
          case rest =>
            obtain ⟨n2, rfl, rfl, -, hB9⟩ := hcut
            have HE := Lib.hid (keep2 hB9 HBX.out)
            have u1 := keep1 hB9 s1
            have u2 := keep1 hB9 l1
            clear hB9 s0 s1 s2 l1
            go_wp2
            go_quiet (fail)
            go_wp2
            go_ret
            exact ⟨rfl, HE.out.trans (below_drewN' _ _ _)⟩
end Go.Proofs.Ytloilkfloidnjaa
