/- The walk of ScenesAlone. -/
import Derived.Test.YtloilkfloidnjaaU
namespace Go.Proofs.Ytloilkfloidnjaa
open Go.RowKit Go.WideMaps

/-- 'Last' of the scene with an index, in later worlds. -/
theorem last_of {W0 : World} {b off : Nat} {L : List Scn} (h : ScnCells W0 b off L) {q : Nat} (hq : q < L.length) (d a : ByteArray) :
    ∃ qn ql sa ln sc, W0.cell? ⟨b, off + q * 3, none⟩ = some (.string qn) ∧ W0.cell? ⟨b, off + q * 3 + 1, none⟩ = some (.int .i64 ql) ∧ W0.cell? ⟨b, off + q * 3 + 2, none⟩ = some (.slice sa ln sc) ∧
      (∀ W, Below W0.heap.size W0 W → Calls Try.prog 18 #[.agg #[.string qn, .int .i64 ql, .slice sa ln sc], .agg #[.string d, .string a]] W fun e W' => e = .returned (.tuple #[(sAt (stN L q) (lI (stN L q) d a)).val, .bool (lI (stN L q) d a).isSome]) ∧ Below W.heap.size W W') := by
  obtain ⟨s0, s1, sa, sc, s2, hss⟩ := h q hq
  exact ⟨_, _, sa, _, sc, s0, s1, s2, fun W hW => last_any (L.getD q zN).name (lyr L q) (.slice sa (stN L q).length sc) (stN L q) d a W (hss.step hW)⟩
theorem kn_rep {L : List Scn} {s : ByteArray} {k : Nat} (h : fI L s = some k) (n : Nat) : kn L (List.replicate n s) = true := by
  unfold kn
  rw [List.all_eq_true]
  intro x hx
  rw [List.eq_of_mem_replicate hx, h]; rfl
theorem name_rep {s : ByteArray} {n m : Nat} (h : m < n) : nameAt (List.replicate n s) m = s := by
  unfold nameAt
  simp [List.getD_eq_getElem?_getD, h]
theorem rwN_rep {L : List Scn} {s : ByteArray} {k : Nat} (h : fI L s = some k) (n : Nat) (d a : ByteArray) : ∀ m, m ≤ n → rwN L (List.replicate n s) d a m = if (lI (stN L k) d a).isSome && decide (0 < m) then (k : Int) else -1
  | 0, _ => by simp [rwN]
  | m + 1, hm => by
    have hix : ixOf L (nameAt (List.replicate n s) m) = k := by rw [name_rep (by omega)]; unfold ixOf; rw [h]; rfl
    unfold rwN
    rw [hix, rwN_rep h n d a m (by omega)]
    cases hs : (lI (stN L k) d a).isSome
    · simp
    · simp only [Bool.true_and]
      have : decide (0 < m + 1) = true := by simp
      rw [this]
      by_cases hm0 : 0 < m
      · simp [hm0]
      · simp [hm0]
theorem rW_rep {L : List Scn} {s : ByteArray} {k : Nat} (h : fI L s = some k) (n : Nat) (hn : 0 < n) (d a : ByteArray) : rW L (List.replicate n s) d a = if (lI (stN L k) d a).isSome then (k : Int) else -1 := by
  unfold rW
  rw [kn_rep h, List.length_replicate, rwN_rep h n d a n (Nat.le_refl _)]
  simp [hn]
theorem rep_of {L : List Scn} {s : ByteArray} {k : Nat} (h : fI L s = some k) (n : Nat) (hn : 0 < n) {d a : ByteArray} (hs : (lI (stN L k) d a).isSome = true) :
    rW L (List.replicate n s) d a = k ∧ (lI (ovl L (List.replicate n s)) d a).isSome = true ∧ sAt (ovl L (List.replicate n s)) (lI (ovl L (List.replicate n s)) d a) = sAt (stN L k) (lI (stN L k) d a) := by
  have h1 := rW_rep h n hn d a
  rw [hs] at h1
  have h2 := ovl_of (kn_rep h n) d a
  rw [h1] at h2
  have h3 : (lI (ovl L (List.replicate n s)) d a).isSome = true := by rw [h2]; simp
  refine ⟨by simpa using h1, h3, ?_⟩
  obtain ⟨i, hi⟩ := Option.isSome_iff_exists.1 h3
  obtain ⟨hl, hd, ha⟩ := lI_some hi
  obtain ⟨q, j, g1, g2, g3, g4, g5⟩ := ovl_at (kn_rep h n) hl
  rw [hd, ha] at g1 g4
  rw [g1] at h1
  have hq : q = k := by simp at h1; omega
  subst hq
  rw [hi, g4]
  show (ovl L (List.replicate n s)).getD i zS = (stN L q).getD j zS
  exact g5.symm
theorem rep_in {L : List Scn} {s : ByteArray} {k : Nat} (h : fI L s = some k) (n : Nat) (hn : 0 < n) {i : Nat} (hi : i < (ovl L (List.replicate n s)).length) :
    (lI (stN L k) ((ovl L (List.replicate n s)).getD i zS).dev ((ovl L (List.replicate n s)).getD i zS).attr).isSome = true := by
  obtain ⟨q, j, g1, g2, g3, g4, g5⟩ := ovl_at (kn_rep h n) hi
  rw [rW_rep h n hn] at g1
  split at g1
  · rename_i hs; exact hs
  · omega
theorem names_of_row {w : World} {base : Nat} {v : Value} {l : List ByteArray} (hl : l.length ≤ 1000) (h : w.ownsRow base 9 1 v l.length (l.map .string)) : NamesAt w v l := by
  have hc := fun g (hg : v.ownBlock = some g) => h.cells hg
  rcases h.2 with ⟨rfl, h0⟩ | ⟨g, cap, cur, rfl, -⟩
  · have : l = [] := List.length_eq_zero_iff.1 h0
    subst this
    exact ⟨none, 0, rfl, by simp, fun h => absurd rfl h⟩
  · refine ⟨some ⟨g, 0, none⟩, cap, rfl, by unfold maxLen; omega, fun _ => ⟨g, 0, rfl, fun i x hi => ?_⟩⟩
    have := hc g rfl i (.string x) (by rw [List.getElem?_map, hi]; rfl)
    rw [Go.WideShapes.add_plain] at this
    exact this
theorem mod_nat (x : Int) (n : Nat) (h0 : 0 ≤ x) (hn : 0 < n) : ∃ p : Nat, x % (n : Int) = (p : Int) ∧ p < n := by
  have h1 := Int.emod_nonneg x (show (n : Int) ≠ 0 by omega)
  have h2 := Int.emod_lt_of_pos x (show (0 : Int) < n by omega)
  exact ⟨(x % (n : Int)).toNat, by omega, by omega⟩
set_option maxRecDepth 100000 in
set_option maxHeartbeats 8000000 in
theorem alone_walk (v : Value) (L : List Scn) (x1 x2 : Int) (w : World) (h : ScnsAt w v L) (hk : ∀ x ∈ L, x.ok) (h10 : 0 ≤ x1) (h11 : x1 ≤ 255) (h20 : 0 ≤ x2) (h21 : x2 ≤ 255) :
    Calls Try.prog 9 #[v, .int .u8 x1, .int .u8 x2] w fun e w' => e = .returned (.bool true) ∧ Below w.heap.size w w' := by
  obtain ⟨i0, hi, hz0, hz1, hz2⟩ := info_parts (show (Try.prog.info? 9).map (fun i => (i.zero, i.size, i.bytes)) = some (some (.string ⟨#[]⟩), 1, 16) by kernel_rfl)
  have HS := Lib.hid h
  obtain ⟨a1, c1, rfl, -⟩ := h.open
  clear h
  go_enter Try.func9, Try.ntmps9
  go_wp2_with fail
  refine (head_any _).mono ?_
  rintro e w2 ⟨rfl, b2⟩
  have HS2 := Lib.hid (HS.out.step b2)
  have HB2 := Lib.hid b2
  clear b2
  go_wp2_with fail
  refine (few_any _ L none 0 0 _ HS2.out (by decide)).mono ?_
  rintro e w3 ⟨rfl, rfl⟩
  cases hf : few L 0
  · go_wp2
    go_ret
    exact ⟨rfl, HB2.out⟩
  · by_cases hL0 : L.length = 0
    · have hle : ((L.length : Int) == 0) = true := by simp [hL0]
      go_wp2
      go_ret
      exact ⟨rfl, HB2.out⟩
    · have hle : ((L.length : Int) == 0) = false := by rw [beq_eq_false_iff_ne]; omega
      have hft : ∀ x ∈ L, x.sets.length ≤ 20 := by
        unfold few at hf
        rw [Bool.and_eq_true, List.all_eq_true] at hf
        intro x hx; simpa using hf.1 x hx
      have hl12 : L.length ≤ 12 := by
        unfold few at hf
        rw [Bool.and_eq_true, Bool.and_eq_true, decide_eq_true_iff] at hf
        exact hf.2.1
      have HSw := Lib.hid HS2.out
      obtain ⟨aa, cap, hae, hsx⟩ := HS2.out.open
      simp only [Value.slice.injEq, true_and] at hae
      obtain ⟨rfl, rfl⟩ := hae
      obtain ⟨b, off, rfl, hsc⟩ := hsx (by intro h; rw [h] at hL0; simp at hL0)
      obtain ⟨p, hmod, hp⟩ := mod_nat x1 L.length h10 (by omega)
      obtain ⟨T, hmod2, hT⟩ := mod_nat x2 5 h20 (by omega)
      have hmod2 : x2 % 5 = (T : Int) := hmod2
      have hpi : (p : Int) < L.length := by omega
      obtain ⟨n0, -, -⟩ := hsc p hp
      obtain ⟨k, hfk⟩ : ∃ k, fI L (L.getD p zN).name = some k := by
        cases hfi : fI L (L.getD p zN).name with
        | some k => exact ⟨k, rfl⟩
        | none =>
          unfold fI at hfi
          rw [List.findIdx?_eq_none_iff] at hfi
          have := hfi _ (scn_mem hp)
          rw [sE_iff.2 rfl] at this; cases this
      have hkl := fI_lt hfk
      have hkn : sE (L.getD k zN).name (L.getD p zN).name = true := by
        have h1 := hfk
        unfold fI at h1
        rw [List.findIdx?_eq_some_iff_getElem] at h1
        obtain ⟨h2, h3, -⟩ := h1
        have e : L.getD k zN = L[k] := by simp [List.getD_eq_getElem?_getD, h2]
        rw [e]; exact h3
      have hkn := sE_iff.1 hkn
      obtain ⟨m0, -, sa, sc, m2, hss⟩ := hsc k hkl
      rw [hkn] at m0
      have hki : (k : Int) < L.length := by omega
      have hnsz : (L.getD p zN).name.size ≤ maxLen := (hk _ (scn_mem hp)).1
      have HC := Lib.hid hsc
      have HSS := Lib.hid hss
      have HFK := Lib.hid hfk
      have HIX := Lib.hid (show fInt (fI L (L.getD p zN).name) = (k : Int) by rw [hfk]; rfl)
      have HKO := Lib.hid hk
      have hs20 : (stN L k).length ≤ 20 := hft _ (scn_mem hkl)
      have HFT := Lib.hid hft
      clear hsx hsc hss hfk hkn hk hft
      generalize (L.getD p zN).name = nm at *
      go_wp2_with (go_at_call 21; go_must (refine (find_any _ L nm _ HSw.out).mono ?_); rintro e wf ⟨rfl, rfl⟩; rw [HIX.out])
      go_loopw [9, 10] (fun nv i wr => ∃ m : Nat, m ≤ T ∧ i = .int .i64 m ∧ Hid (wr.ownsRow w2.heap.size 9 1 nv (m + 1) ((List.replicate (m + 1) nm).map .string)) ∧ Hid (Below w2.heap.size w2 wr)) (fun _ i _ => T - (intOf i).toNat)
      case atStart => exact ⟨0, by omega, rfl, Lib.hid (World.ownsRow_lit (base := w2.heap.size) (size := 1) (e := 9) w2 #[.string nm] 1 (Nat.le_refl _) (by unfold maxLen; omega) rfl), Lib.hid (al w2 _)⟩
      case round =>
        obtain ⟨m, hm, rfl, HR, HB⟩ := hrel
        obtain ⟨va, vc, rfl⟩ := row_slice HR.out
        by_cases hlt : m < T
        · have hmt : (m : Int) < T := by omega
          have q0 := keep1 HB.out m0
          have hbz := HB.out.size
          have HR1 := Lib.hid (HR.out.alloc (.cells #[.string nm] 9))
          have HB1 := Lib.hid (HB.out.alloc hbz (.cells #[.string nm] 9))
          go_wp2_with (at_builtin; refine wpList_append_own _ rfl _ _ 23 rfl w2.heap.size 9 i0 _ 1 16 Try.underlying23 hi hz0 hz1 hz2 rfl (by decide) _ _ _ rfl HR1.out ⟨wr.heap.size, 0, none⟩ 1 1 [.string nm] rfl rfl (cell_one_new _ _ _) (by simp [Value.oneCell']) (by unfold maxLen; omega) (by omega) (by simp; omega) ?_; intro v' w3 hown' hgrow hnil)
          have HR2 := Lib.hid (show w3.ownsRow w2.heap.size 9 1 v' (m + 1 + 1) ((List.replicate (m + 1 + 1) nm).map .string) by
            rw [List.replicate_succ' , List.map_append]; exact hown')
          have HB2 := Lib.hid (HB1.out.grown hgrow (by simp; omega) (fun j hj => (HR1.out.lt j hj).1))
          clear hown' hgrow hnil
          go_wp2
          go_roundw
          case rel => exact ⟨m + 1, by omega, by go_num, HR2, HB2⟩
          case measure => simp [intOf]; omega
        · have hmT : m = T := by omega
          subst hmT
          have hmt : ¬ (m : Int) < m := by omega
          have HNM := Lib.hid (names_of_row (w := wr) (base := w2.heap.size) (v := .slice va (m + 1) vc) (l := List.replicate (m + 1) nm) (by simp; omega) (by rw [List.length_replicate]; exact HR.out))
          have FT : Hid (Fit L (List.replicate (m + 1) nm)) := Lib.hid ⟨HKO.out, HFT.out, hl12, fun x hx => by rw [List.eq_of_mem_replicate hx]; exact hnsz, by simp; omega⟩
          have HSR := Lib.hid (HSw.out.step HB.out)
          have HRO := Lib.hid (fun d a hs => rep_of HFK.out (m + 1) (by omega) (d := d) (a := a) hs)
          have HRI := Lib.hid (fun i hi => rep_in HFK.out (m + 1) (by omega) (i := i) hi)
          have hov := ovl_len FT.out (kn_rep HFK.out (m + 1))
          have HOV := Lib.hid (ov_yes HSR.out HNM.out FT.out (kn_rep HFK.out (m + 1)))
          generalize hNN : List.replicate (m + 1) nm = NN at *
          go_wp2_with fail
          refine HOV.out.mono ?_
          rintro e w5 ⟨u, rfl, hu, b5⟩
          have HU := Lib.hid hu
          obtain ⟨ua, uc, rfl, -, -⟩ := hu
          have X5 := Lib.hid (keep2 b5 HB.out)
          have HS5 := Lib.hid (HSR.out.step b5)
          have HN5 := Lib.hid (HNM.out.step b5)
          have HC5 := Lib.hid (HC.out.step X5.out)
          have HSS5 := Lib.hid (HSS.out.step X5.out)
          have q2 := keep1 X5.out m2
          have HE5 := Lib.hid (keep2 X5.out HB2.out)
          have HQ2 := Lib.hid q2
          clear b5 q2
          go_wp2_with fail
          go_loopw [13] (fun i wr => ∃ j : Nat, j ≤ (stN L k).length ∧ i = .int .i64 j ∧ Hid (Below w5.heap.size w5 wr)) (fun i _ => (stN L k).length - (intOf i).toNat)
          case atStart => exact ⟨0, by omega, rfl, Lib.hid (Below.refl _ _)⟩
          case round =>
            obtain ⟨j, hj, rfl, HB⟩ := hrel
            have m2' := keep1 HB.out HQ2.out
            by_cases hlt2 : j < (stN L k).length
            · have hjl : (j : Int) < (stN L k).length := by omega
              obtain ⟨sb, cap2, hsv, -, hsx⟩ := HSS5.out.step HB.out
              simp only [Value.slice.injEq, true_and] at hsv
              obtain ⟨rfl, rfl⟩ := hsv
              obtain ⟨b3, o3, rfl, hcs⟩ := hsx (by intro h; rw [h] at hlt2; simp at hlt2)
              obtain ⟨e0, e1, -, -, -⟩ := hcs j _ (getD_of hlt2)
              have hok := (HKO.out _ (scn_mem hkl)).2 _ (sett_mem (l := stN L k) hlt2)
              have hsome := lI_mem (sett_mem hlt2)
              obtain ⟨hd, ha⟩ := hok
              clear hcs hsx
              generalize (stN L k).getD j zS = s at *
              obtain ⟨sd, sa', sn, st, su⟩ := s
              simp only at e0 e1 hd ha hsome
              obtain ⟨h1, h2, h3⟩ := HRO.out sd sa' hsome
              obtain ⟨xd, xa, xn, xt, xu, hy⟩ : ∃ yd ya yn yt yu, sAt (stN L k) (lI (stN L k) sd sa') = ⟨yd, ya, yn, yt, yu⟩ := ⟨_, _, _, _, _, rfl⟩
              obtain ⟨w7, hW7⟩ : ∃ w7, wr.alloc (.cells #[.string sd, .string sa'] 25) = w7 := ⟨_, rfl⟩
              have a7 : Below wr.heap.size wr w7 := by rw [← hW7]; exact al wr _
              have r0 : w7.cell? ⟨wr.heap.size, 0, none⟩ = some (.string sd) := by rw [← hW7]; exact cell_new' wr _ 25 _ rfl 0
              have r1 : w7.cell? ⟨wr.heap.size, 1, none⟩ = some (.string sa') := by rw [← hW7]; exact cell_new' wr _ 25 _ rfl 1
              have A7 := Lib.hid (keep2 a7 HB.out)
              obtain ⟨qn, ql, sc1, ln1, sc2, s0, s1, s2, hlast⟩ := last_of (HC5.out.step A7.out) hkl sd sa'
              rw [hsome, hy] at hlast
              have HLast := Lib.hid (show ∀ W, Below w7.heap.size w7 W → Calls Try.prog 18 #[.agg #[.string qn, .int .i64 ql, .slice sc1 ln1 sc2], .agg #[.string sd, .string sa']] W fun e W' => e = .returned (.tuple #[.agg #[.string xd, .string xa, .string xn, .int .i64 xt, .string xu], .bool true]) ∧ Below W.heap.size W W' from hlast)
              have HOf : Hid (∀ W, Below w7.heap.size w7 W → Calls Try.prog 19 #[.slice ua (ovl L NN).length uc, .agg #[.string sd, .string sa']] W fun e W' => e = .returned (.tuple #[.agg #[.string xd, .string xa, .string xn, .int .i64 xt, .string xu], .bool true]) ∧ Below W.heap.size W W') := Lib.hid (fun W hW => by
                have := of_any _ (ovl L NN) sd sa' W (HU.out.step (keep2 hW A7.out))
                unfold LastPost at this
                rw [h2, h3, hy] at this
                exact this)
              have HWn : Hid (∀ W, Below w7.heap.size w7 W → Calls Try.prog 16 #[.slice (some ⟨b, off, none⟩) L.length c1, .slice va (m + 1) vc, .agg #[.string sd, .string sa']] W fun e w' => e = .returned (.int .i64 (k : Int)) ∧ Below W.heap.size W w') := Lib.hid (fun W hW => by
                have := wins_any _ _ L NN sd sa' W (HS5.out.step (keep2 hW A7.out)) (HN5.out.step (keep2 hW A7.out)) FT.out hd ha
                rw [wI_eq, h1] at this
                exact this)
              clear hlast h1 h2 h3 hy hsome a7
              go_wp2_with fail
              have hbA : Below w7.heap.size w7 (w7.alloc c40).drew := ((Below.refl _ _).alloc (Nat.le_refl _) _).trans (below_drew _ _)
              have HbA := Lib.hid hbA
              have r0A := keep1 hbA r0
              have r1A := keep1 hbA r1
              have s0A := keep1 hbA s0
              have s1A := keep1 hbA s1
              have s2A := keep1 hbA s2
              have HA : Hid (∀ j, (w7.alloc c40).drew.cell? ⟨w7.heap.size, j, none⟩ = (#[.string ⟨#[]⟩, .string ⟨#[]⟩, .string ⟨#[]⟩, .int .i64 0, .string ⟨#[]⟩] : Array Value)[j]? ∧ (w7.alloc c40).drew.frozen? ⟨w7.heap.size, j, none⟩ = false) :=
                Lib.hid fun j => ⟨cell_new' w7 _ 40 _ rfl j, frozen_new w7 _ 40 j⟩
              clear hbA
              go_upto_region 17 with fail
              go_cut [15, 16] from 72 to 120 (fun p q wc => ∃ n : Nat, p = .pointer (some ⟨n, 0, none⟩) ∧ q = .bool true ∧ Five wc n xd xa xn xt xu ∧ Below w7.heap.size w7 wc)
              case first =>
               go_region_law (first | (go_simp; go_at_call 18; refine (HLast.out _ (by first | exact below_drew _ _ | exact HbA.out)).mono ?_; rintro e w4 ⟨rfl, hb4⟩; have HB4 : Hid (Below w7.heap.size w7 w4) := Lib.hid (by first | exact (below_drew _ _).trans (hb4.mono (by simp)) | exact HbA.out.trans (hb4.mono (by simp))); (first | (have x0 := keep1 hb4 (HA.out 0).1; have x1 := keep1 hb4 (HA.out 1).1; have x2 := keep1 hb4 (HA.out 2).1; have x3 := keep1 hb4 (HA.out 3).1; have x4 := keep1 hb4 (HA.out 4).1; have v0 := keepf hb4 (HA.out 0).1 (HA.out 0).2; have v1 := keepf hb4 (HA.out 1).1 (HA.out 1).2; have v2 := keepf hb4 (HA.out 2).1 (HA.out 2).2; have v3 := keepf hb4 (HA.out 3).1 (HA.out 3).2; have v4 := keepf hb4 (HA.out 4).1 (HA.out 4).2) | skip); clear hb4))
               all_goals
                have hz4 := HB4.out.size
                go_wp2_with fail
                go_meet
                first
                  | with_reducible exact ⟨_, rfl, rfl, five_cells x0 x1 x2 x3 x4 _ _ _ _ _, five_set HB4.out (Nat.le_refl _) _ _ _ _ _⟩
                  | exact ⟨_, rfl, rfl, five_new _ _ _ _ _ _, HB4.out.alloc hz4 _⟩
              case rest =>
                obtain ⟨n2, rfl, rfl, ⟨x0, x1', x2', x3, x4⟩, hBX⟩ := hcut
                have r0c := keep1 hBX r0
                have r1c := keep1 hBX r1
                have HBX := Lib.hid hBX
                clear hBX r0 r1 s0 s1 s2
                go_wp2_with fail
                refine (HOf.out _ HBX.out).mono ?_
                rintro e w8 ⟨rfl, b8⟩
                have C8 : Below wc.heap.size wc (w8.alloc (.cells #[.string xd, .string xa, .string xn, .int .i64 xt, .string xu] 40)) := keep2 (al w8 _) b8
                have y0 := keep1 C8 x0
                have y1 := keep1 C8 x1'
                have y2 := keep1 C8 x2'
                have y3 := keep1 C8 x3
                have y4 := keep1 C8 x4
                have t0 := keep1 C8 r0c
                have t1 := keep1 C8 r1c
                have HC8 := Lib.hid (keep2 C8 HBX.out)
                clear C8 b8 x0 x1' x2' x3 x4 r0c r1c
                go_wp2_with fail
                refine (HWn.out _ HC8.out).mono ?_
                rintro e w9 ⟨rfl, b9⟩
                have HB9 := Lib.hid (keep2 b9 (keep2 HC8.out A7.out))
                clear b9 y0 y1 y2 y3 y4 t0 t1
                go_wp2
                go_roundw
                case rel => exact ⟨j + 1, by omega, by go_num, HB9⟩
                case measure => simp [intOf]; omega
            · have hjl : j = (stN L k).length := by omega
              subst hjl
              clear hlt2
              go_wp2_with fail
              go_loopw [19] (fun i w6 => ∃ j : Nat, j ≤ (ovl L NN).length ∧ i = .int .i64 j ∧ Hid (Below w5.heap.size w5 w6)) (fun i _ => (ovl L NN).length - (intOf i).toNat)
              case atStart => exact ⟨0, by omega, rfl, HB⟩
              case round =>
                obtain ⟨j, hj, rfl, HB⟩ := hrel
                by_cases hlt2 : j < (ovl L NN).length
                · have hjl : (j : Int) < (ovl L NN).length := by omega
                  obtain ⟨ub, uc2, hsv, -, hsx⟩ := HU.out.step HB.out
                  simp only [Value.slice.injEq, true_and] at hsv
                  obtain ⟨rfl, rfl⟩ := hsv
                  obtain ⟨b3, o3, rfl, hcs⟩ := hsx (by intro h; rw [h] at hlt2; simp at hlt2)
                  obtain ⟨r0, r1, -, -, -⟩ := hcs j _ (getD_of hlt2)
                  have hsome := HRI.out j hlt2
                  clear hcs hsx
                  generalize (ovl L NN).getD j zS = s at *
                  obtain ⟨sd, sa', sn, st, su⟩ := s
                  simp only at r0 r1 hsome
                  obtain ⟨xd, xa, xn, xt, xu, hy⟩ : ∃ yd ya yn yt yu, sAt (stN L k) (lI (stN L k) sd sa') = ⟨yd, ya, yn, yt, yu⟩ := ⟨_, _, _, _, _, rfl⟩
                  obtain ⟨qn, ql, sc1, ln1, sc2, s0, s1, s2, hlast⟩ := last_of (HC5.out.step HB.out) hkl sd sa'
                  rw [hsome, hy] at hlast
                  have HLast := Lib.hid (show ∀ W, Below wr.heap.size wr W → Calls Try.prog 18 #[.agg #[.string qn, .int .i64 ql, .slice sc1 ln1 sc2], .agg #[.string sd, .string sa']] W fun e W' => e = .returned (.tuple #[.agg #[.string xd, .string xa, .string xn, .int .i64 xt, .string xu], .bool true]) ∧ Below W.heap.size W W' from hlast)
                  clear hlast hsome hy
                  go_wp2_with fail
                  have hbA : Below wr.heap.size wr (wr.alloc c40).drew := ((Below.refl _ _).alloc (Nat.le_refl _) _).trans (below_drew _ _)
                  have HbA := Lib.hid hbA
                  have r0A := keep1 hbA r0
                  have r1A := keep1 hbA r1
                  have s0A := keep1 hbA s0
                  have s1A := keep1 hbA s1
                  have s2A := keep1 hbA s2
                  have HA : Hid (∀ j, (wr.alloc c40).drew.cell? ⟨wr.heap.size, j, none⟩ = (#[.string ⟨#[]⟩, .string ⟨#[]⟩, .string ⟨#[]⟩, .int .i64 0, .string ⟨#[]⟩] : Array Value)[j]? ∧ (wr.alloc c40).drew.frozen? ⟨wr.heap.size, j, none⟩ = false) :=
                    Lib.hid fun j => ⟨cell_new' wr _ 40 _ rfl j, frozen_new wr _ 40 j⟩
                  clear hbA
                  go_upto_region 24 with fail
                  go_cut [20, 21] from 121 to 141 (fun p q wc => ∃ n : Nat, p = .pointer (some ⟨n, 0, none⟩) ∧ q = .bool true ∧ Five wc n xd xa xn xt xu ∧ Below wr.heap.size wr wc)
                  case first =>
                   go_region_law (first | (go_simp; go_at_call 18; refine (HLast.out _ (by first | exact below_drew _ _ | exact HbA.out)).mono ?_; rintro e w4 ⟨rfl, hb4⟩; have HB4 : Hid (Below wr.heap.size wr w4) := Lib.hid (by first | exact (below_drew _ _).trans (hb4.mono (by simp)) | exact HbA.out.trans (hb4.mono (by simp))); (first | (have x0 := keep1 hb4 (HA.out 0).1; have x1 := keep1 hb4 (HA.out 1).1; have x2 := keep1 hb4 (HA.out 2).1; have x3 := keep1 hb4 (HA.out 3).1; have x4 := keep1 hb4 (HA.out 4).1; have v0 := keepf hb4 (HA.out 0).1 (HA.out 0).2; have v1 := keepf hb4 (HA.out 1).1 (HA.out 1).2; have v2 := keepf hb4 (HA.out 2).1 (HA.out 2).2; have v3 := keepf hb4 (HA.out 3).1 (HA.out 3).2; have v4 := keepf hb4 (HA.out 4).1 (HA.out 4).2) | skip); clear hb4))
                   all_goals
                    have hz4 := HB4.out.size
                    go_wp2_with fail
                    go_meet
                    first
                      | with_reducible exact ⟨_, rfl, rfl, five_cells x0 x1 x2 x3 x4 _ _ _ _ _, five_set HB4.out (Nat.le_refl _) _ _ _ _ _⟩
                      | exact ⟨_, rfl, rfl, five_new _ _ _ _ _ _, HB4.out.alloc hz4 _⟩
                  case rest =>
                    obtain ⟨n2, rfl, rfl, -, hBX⟩ := hcut
                    have HBX := Lib.hid (keep2 hBX HB.out)
                    clear hBX
                    go_wp2
                    go_roundw
                    case rel => exact ⟨j + 1, by omega, by go_num, HBX⟩
                    case measure => simp [intOf]; omega
                · have hjl : j = (ovl L NN).length := by omega
                  subst hjl
                  go_wp2
                  go_ret
                  exact ⟨rfl, keep2 HB.out HE5.out⟩
end Go.Proofs.Ytloilkfloidnjaa
