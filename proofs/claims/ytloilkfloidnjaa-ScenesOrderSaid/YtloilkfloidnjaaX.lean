/- The walk of ScenesOrder. -/
import Derived.Test.YtloilkfloidnjaaU
namespace Go.Proofs.Ytloilkfloidnjaa
open Go.RowKit Go.WideMaps

theorem foldl_pre : ∀ (l : List Sett) (out : List Rf), ∃ t, l.foldl addR out = out ++ t
  | [], out => ⟨[], by simp⟩
  | s :: l, out => by
    obtain ⟨t, ht⟩ := foldl_pre l (addR out s)
    rw [List.foldl_cons, ht]
    unfold addR
    split
    · exact ⟨t, rfl⟩
    · exact ⟨(s.dev, s.attr) :: t, by simp⟩
theorem lI_has (l : List Sett) (d a : ByteArray) : (lI l d a).isSome = hasR (l.map Sett.rf) d a := by
  rw [Bool.eq_iff_iff]
  constructor
  · intro h
    obtain ⟨j, hj⟩ := Option.isSome_iff_exists.1 h
    obtain ⟨h1, h2, h3⟩ := lI_some hj
    unfold hasR hasN
    rw [List.take_length, List.any_eq_true]
    refine ⟨(l.getD j zS).rf, List.mem_map.2 ⟨_, sett_mem h1, rfl⟩, ?_⟩
    rw [Bool.and_eq_true, sE_iff, sE_iff]
    exact ⟨h2, h3⟩
  · intro h
    unfold hasR hasN at h
    rw [List.take_length, List.any_eq_true] at h
    obtain ⟨r, hr, he⟩ := h
    obtain ⟨x, hx, rfl⟩ := List.mem_map.1 hr
    rw [Bool.and_eq_true, sE_iff, sE_iff] at he
    rw [← he.1, ← he.2]
    exact lI_mem hx
theorem order_has {L : List Scn} {N : List ByteArray} (hkn : kn L N = true) {out : List Rf} {l : List Sett} (h : rfs L N = l.foldl addR out) (d a : ByteArray) : (lI ((ovl L N).take out.length) d a).isSome = hasR out d a := by
  obtain ⟨t, ht⟩ := foldl_pre l out
  rw [lI_has, List.map_take, ovl_rfs hkn, h, ht, List.take_left']
  rfl
theorem order_next {L : List Scn} {N : List ByteArray} (hkn : kn L N = true) {out : List Rf} {l : List Sett} {s : Sett} (h : rfs L N = (s :: l).foldl addR out) (hh : hasR out s.dev s.attr = false) :
    out.length < (ovl L N).length ∧ ((ovl L N).getD out.length zS).dev = s.dev ∧ ((ovl L N).getD out.length zS).attr = s.attr := by
  have ha : addR out s = out ++ [(s.dev, s.attr)] := by unfold addR; rw [hh]; rfl
  rw [List.foldl_cons, ha] at h
  obtain ⟨t, ht⟩ := foldl_pre l (out ++ [(s.dev, s.attr)])
  rw [ht] at h
  have hl : (ovl L N).length = (rfs L N).length := by rw [← ovl_rfs hkn]; simp
  have hlt : out.length < (ovl L N).length := by rw [hl, h]; simp
  have e1 : ((ovl L N).map Sett.rf)[out.length]? = some ((ovl L N).getD out.length zS).rf := by rw [List.getElem?_map, getD_of hlt]; rfl
  rw [ovl_rfs hkn, h] at e1
  have e2 : (out ++ [(s.dev, s.attr)] ++ t)[out.length]? = some (s.dev, s.attr) := by simp
  rw [e2] at e1
  have e3 : (s.dev, s.attr) = ((ovl L N).getD out.length zS).rf := Option.some.inj e1
  exact ⟨hlt, (congrArg Prod.fst e3).symm, (congrArg Prod.snd e3).symm⟩
theorem setts_take {w : World} {a : Option Addr} {k c : Nat} {l : List Sett} (h : SettsAt w (.slice a k c) l) (n : Nat) (hn : n ≤ l.length) : SettsAt w (.slice a n c) (l.take n) := by
  obtain ⟨a', c', h1, h2, h3⟩ := h
  simp only [Value.slice.injEq] at h1
  obtain ⟨rfl, -, rfl⟩ := h1
  have hl : (l.take n).length = n := by simp; omega
  refine ⟨a, c, by rw [hl], by omega, fun hne => ?_⟩
  obtain ⟨b, off, ha, hx⟩ := h3 (fun e => hne (by rw [e]; simp))
  refine ⟨b, off, ha, fun i x hi => hx i x ?_⟩
  rw [List.getElem?_take] at hi
  split at hi
  · exact hi
  · cases hi
set_option maxRecDepth 100000 in
set_option maxHeartbeats 8000000 in
theorem order_walk (v : Value) (L : List Scn) (vn : Value) (N : List ByteArray) (w : World) (h : ScnsAt w v L) (hk : ∀ x ∈ L, x.ok) (hn : NamesAt w vn N) (hnk : ∀ x ∈ N, x.size ≤ maxLen) :
    Calls Try.prog 5 #[v, vn] w fun e w' => e = .returned (.bool true) ∧ Below w.heap.size w w' := by
  have HS := Lib.hid h
  have HN := Lib.hid hn
  have HF := Lib.hid (fun hf => few_fit (L := L) (N := N) hf hk hnk)
  obtain ⟨a1, c1, rfl, -⟩ := h.open
  obtain ⟨an, cn, rfl, -, -⟩ := hn
  clear h hk hnk
  go_enter Try.func5, Try.ntmps5
  go_wp2_with fail
  refine (head_any _).mono ?_
  rintro e w2 ⟨rfl, b2⟩
  have HS2 := Lib.hid (HS.out.step b2)
  have HN2 := Lib.hid (HN.out.step b2)
  have HB2 := Lib.hid b2
  clear b2
  go_wp2_with fail
  refine (few_call HS2.out HN2.out).mono ?_
  rintro e w3 ⟨rfl, rfl⟩
  cases hf : few L N.length
  · go_wp2
    go_ret
    exact ⟨rfl, HB2.out⟩
  · have FT := Lib.hid (HF.out hf)
    go_wp2_with fail
    refine (known_any _ _ L N _ HS2.out HN2.out).mono ?_
    rintro e w4 ⟨rfl, rfl⟩
    cases hkn : kn L N
    · go_wp2
      go_ret
      exact ⟨rfl, HB2.out⟩
    · have HK := Lib.hid hkn
      have hov := ovl_len FT.out hkn
      go_wp2_with fail
      refine (overlay_cap _ _ L N _ HS2.out HN2.out FT.out).mono ?_
      rintro e w5 ⟨⟨hk2, -⟩ | ⟨-, ua, un, uc, rfl, hu, huc⟩, b5⟩
      · rw [HK.out] at hk2; cases hk2
      have HU := Lib.hid hu
      obtain ⟨ua', uc', hue, -, -⟩ := hu
      simp only [Value.slice.injEq] at hue
      obtain ⟨rfl, rfl, rfl⟩ := hue
      have HS5 := Lib.hid (HS2.out.step b5)
      have HN5 := Lib.hid (HN2.out.step b5)
      have HE5 := Lib.hid (keep2 b5 HB2.out)
      have hNl := FT.out.names
      have HST := Lib.hid FT.out.sets
      clear b5 hkn
      go_wp2_with fail
      go_loopw [8, 9] (fun nx i wr => ∃ (m : Nat) (out : List Rf), m ≤ N.length ∧ i = .int .i64 m ∧ nx = .int .i64 (out.length : Int) ∧ Hid (rfs L N = (remI L (ixs L N) m).foldl addR out) ∧ Hid (Below w5.heap.size w5 wr)) (fun _ i _ => N.length - (intOf i).toNat)
      case atStart => exact ⟨0, [], by omega, rfl, rfl, Lib.hid rfl, Lib.hid (Below.refl _ _)⟩
      case round =>
        obtain ⟨m, out, hm, rfl, rfl, HX, HB⟩ := hrel
        by_cases hlt : m < N.length
        · obtain ⟨hix, hil⟩ := fInt_ix HK.out hlt
          obtain ⟨an2, cn2, hne, -, hnx⟩ := HN5.out.step HB.out
          simp only [Value.slice.injEq, true_and] at hne
          obtain ⟨rfl, rfl⟩ := hne
          obtain ⟨b2, o2, rfl, hcs⟩ := hnx (by intro h; rw [h] at hlt; simp at hlt)
          have n0 := hcs m _ (name_get hlt)
          have HIX := Lib.hid hix
          have hrs := remI_step (L := L) (I := ixs L N) (m := m) (by rw [ixs_len]; exact hlt)
          rw [ixs_at hlt] at hrs
          have HRs := Lib.hid hrs
          have HSR := Lib.hid (HS5.out.step HB.out)
          obtain ⟨aa, cap, hae, hsx⟩ := HSR.out.open
          simp only [Value.slice.injEq, true_and] at hae
          obtain ⟨rfl, rfl⟩ := hae
          obtain ⟨b, off, rfl, hsc⟩ := hsx (by intro h; rw [h] at hil; simp at hil)
          clear hcs hnx hix hrs hsx
          generalize nameAt N m = nm at *
          generalize ixOf L nm = k at *
          obtain ⟨-, -, sa, sc, s2, hss⟩ := hsc k hil
          have HSS := Lib.hid hss
          have hkl : (k : Int) < L.length := by omega
          have hs20 : (stN L k).length ≤ 20 := HST.out _ (scn_mem hil)
          clear hsc hss
          go_wp2_with (go_at_call 21; go_must (refine (find_any _ L nm _ HSR.out).mono ?_); rintro e wf ⟨rfl, rfl⟩; rw [HIX.out])
          go_loopw [8, 11] (fun nx j w6 => ∃ (q : Nat) (out : List Rf), q ≤ (stN L k).length ∧ j = .int .i64 q ∧ nx = .int .i64 (out.length : Int) ∧ Hid (rfs L N = ((stN L k).drop q ++ remI L (ixs L N) (m + 1)).foldl addR out) ∧ Hid (Below wr.heap.size wr w6)) (fun _ j _ => (stN L k).length - (intOf j).toNat)
          case atStart => exact ⟨0, out, by omega, rfl, rfl, Lib.hid (by rw [HX.out, HRs.out, List.drop_zero]), Lib.hid (Below.refl _ _)⟩
          case round =>
            obtain ⟨q, out, hq, rfl, rfl, HX, HB6⟩ := hrel
            by_cases hlt2 : q < (stN L k).length
            · have A6 := Lib.hid (keep2 HB6.out HB.out)
              obtain ⟨sb, cap2, hsv, -, hsx⟩ := HSS.out.step HB6.out
              simp only [Value.slice.injEq, true_and] at hsv
              obtain ⟨rfl, rfl⟩ := hsv
              obtain ⟨b3, o3, rfl, hcs⟩ := hsx (by intro h; rw [h] at hlt2; simp at hlt2)
              obtain ⟨r0, r1, -, -, -⟩ := hcs q _ (getD_of hlt2)
              have HD := Lib.hid (drop_get hlt2)
              have hq2 : (q : Int) < (stN L k).length := by omega
              have hol : out.length ≤ (ovl L N).length := by
                have e1 : (ovl L N).length = (rfs L N).length := by rw [← ovl_rfs HK.out]; simp
                obtain ⟨t, ht⟩ := foldl_pre ((stN L k).drop q ++ remI L (ixs L N) (m + 1)) out
                rw [e1, HX.out, ht]; simp
              have hoc : out.length ≤ uc := by omega
              have hoi : (out.length : Int) ≤ uc := by omega
              clear hcs hsx
              generalize (stN L k).getD q zS = s at *
              obtain ⟨sd, sa', sn, st, su⟩ := s
              simp only at r0 r1
              obtain ⟨xd, xa, xn, xt, xu, hy⟩ : ∃ yd ya yn yt yu, sAt ((ovl L N).take out.length) (lI ((ovl L N).take out.length) sd sa') = ⟨yd, ya, yn, yt, yu⟩ := ⟨_, _, _, _, _, rfl⟩
              have HOf : Hid (∀ W, Below wr.heap.size wr W → Calls Try.prog 19 #[.slice ua out.length uc, .agg #[.string sd, .string sa']] W fun e W' => e = .returned (.tuple #[.agg #[.string xd, .string xa, .string xn, .int .i64 xt, .string xu], .bool (hasR out sd sa')]) ∧ Below W.heap.size W W') := Lib.hid (fun W hW => by
                have := of_any _ ((ovl L N).take out.length) sd sa' W (setts_take (HU.out.step (keep2 hW A6.out)) out.length hol)
                unfold LastPost at this
                rw [order_has HK.out HX.out, hy] at this
                exact this)
              have HNX := Lib.hid (fun hh => order_next HK.out (out := out) (l := (stN L k).drop (q + 1) ++ remI L (ixs L N) (m + 1)) (s := ⟨sd, sa', sn, st, su⟩) (by rw [HX.out, HD.out, List.cons_append]) hh)
              have HX2 := Lib.hid (show rfs L N = ((stN L k).drop (q + 1) ++ remI L (ixs L N) (m + 1)).foldl addR (addR out ⟨sd, sa', sn, st, su⟩) by rw [HX.out, HD.out, List.cons_append, List.foldl_cons])
              have HAD := Lib.hid (show addR out ⟨sd, sa', sn, st, su⟩ = if hasR out sd sa' then out else out ++ [(sd, sa')] from rfl)
              clear hy
              simp only at HNX
              generalize hbv : hasR out sd sa' = bv at *
              have hbA : Below wr.heap.size wr (wr.alloc c40).drew := ((Below.refl _ _).alloc (Nat.le_refl _) _).trans (below_drew _ _)
              have HbA := Lib.hid hbA
              have r0A := keep1 hbA r0
              have r1A := keep1 hbA r1
              have HA : Hid (∀ j, (wr.alloc c40).drew.cell? ⟨wr.heap.size, j, none⟩ = (#[.string ⟨#[]⟩, .string ⟨#[]⟩, .string ⟨#[]⟩, .int .i64 0, .string ⟨#[]⟩] : Array Value)[j]? ∧ (wr.alloc c40).drew.frozen? ⟨wr.heap.size, j, none⟩ = false) :=
                Lib.hid fun j => ⟨cell_new' wr _ 40 _ rfl j, frozen_new wr _ 40 j⟩
              clear hbA
              go_upto_region 15 with fail
              go_cut [12, 13] from 50 to 87 (fun p q wc => ∃ n : Nat, p = .pointer (some ⟨n, 0, none⟩) ∧ q = .bool bv ∧ Five wc n xd xa xn xt xu ∧ Below wr.heap.size wr wc)
              case first =>
               go_region_law (first | (go_simp; go_at_call 19; refine (HOf.out _ (by first | exact below_drew _ _ | exact HbA.out)).mono ?_; rintro e w4 ⟨rfl, hb4⟩; have HB4 : Hid (Below wr.heap.size wr w4) := Lib.hid (by first | exact (below_drew _ _).trans (hb4.mono (by simp)) | exact HbA.out.trans (hb4.mono (by simp))); (first | (have x0 := keep1 hb4 (HA.out 0).1; have x1 := keep1 hb4 (HA.out 1).1; have x2 := keep1 hb4 (HA.out 2).1; have x3 := keep1 hb4 (HA.out 3).1; have x4 := keep1 hb4 (HA.out 4).1; have v0 := keepf hb4 (HA.out 0).1 (HA.out 0).2; have v1 := keepf hb4 (HA.out 1).1 (HA.out 1).2; have v2 := keepf hb4 (HA.out 2).1 (HA.out 2).2; have v3 := keepf hb4 (HA.out 3).1 (HA.out 3).2; have v4 := keepf hb4 (HA.out 4).1 (HA.out 4).2) | skip); clear hb4))
               all_goals
                have hz4 := HB4.out.size
                go_wp2_with fail
                go_meet
                first
                  | with_reducible exact ⟨_, rfl, rfl, five_cells x0 x1 x2 x3 x4 _ _ _ _ _, five_set HB4.out (Nat.le_refl _) _ _ _ _ _⟩
                  | exact ⟨_, rfl, rfl, five_new _ _ _ _ _ _, HB4.out.alloc hz4 _⟩
              case rest =>
                obtain ⟨n2, rfl, rfl, -, hBX⟩ := hcut
                have t0 := keep1 hBX r0
                have t1 := keep1 hBX r1
                have HBX := Lib.hid (keep2 hBX HB6.out)
                have AX := Lib.hid (keep2 hBX A6.out)
                clear hBX r0 r1
                cases bv
                · obtain ⟨g1, g2, g3⟩ := HNX.out rfl
                  obtain ⟨ub, uc2, hsv, -, hsx⟩ := HU.out.step AX.out
                  simp only [Value.slice.injEq, true_and] at hsv
                  obtain ⟨rfl, rfl⟩ := hsv
                  obtain ⟨b7, o7, rfl, hcs⟩ := hsx (by intro h; rw [h] at g1; simp at g1)
                  obtain ⟨u0, u1, -, -, -⟩ := hcs _ _ (getD_of g1)
                  rw [g2] at u0
                  rw [g3] at u1
                  have HX3 := Lib.hid (show rfs L N = ((stN L k).drop (q + 1) ++ remI L (ixs L N) (m + 1)).foldl addR (out ++ [(sd, sa')]) by rw [HX2.out, HAD.out]; rfl)
                  have hnl : decide (((ovl L N).length : Int) ≤ (out.length : Int)) = false := by rw [decide_eq_false_iff_not]; omega
                  have hoi2 : (out.length : Int) < (ovl L N).length := by omega
                  clear hcs hsx g2 g3 HNX
                  go_wp2
                  go_quiet (fail)
                  go_wp2
                  go_roundw
                  case rel => exact ⟨q + 1, out ++ [(sd, sa')], by omega, by go_num, by rw [List.length_append]; simp, HX3, Lib.hid (HBX.out.trans (below_drewN' _ _ _))⟩
                  case measure => simp [intOf]; omega
                · have HX3 := Lib.hid (show rfs L N = ((stN L k).drop (q + 1) ++ remI L (ixs L N) (m + 1)).foldl addR out by rw [HX2.out, HAD.out]; rfl)
                  go_wp2
                  go_roundw
                  case rel => exact ⟨q + 1, out, by omega, by go_num, rfl, HX3, HBX⟩
                  case measure => simp [intOf]; omega
            · have hkl : q = (stN L k).length := by omega
              subst hkl
              have HX2 := Lib.hid (show rfs L N = (remI L (ixs L N) (m + 1)).foldl addR out by rw [HX.out, List.drop_length, List.nil_append])
              have HB7 := Lib.hid (keep2 HB6.out HB.out)
              go_wp2
              go_roundw
              case rel => exact ⟨m + 1, out, by omega, by go_num, rfl, HX2, HB7⟩
              case measure => simp [intOf]; omega
        · have hml : m = N.length := by omega
          subst hml
          have he : out.length = (ovl L N).length := by
            have e1 : (ovl L N).length = (rfs L N).length := by rw [← ovl_rfs HK.out]; simp
            rw [e1, HX.out, remI_end (by rw [ixs_len]; exact Nat.le_refl _)]; rfl
          have hen : ((out.length : Int) == ((ovl L N).length : Int)) = true := by rw [he]; simp
          go_wp2
          go_ret
          exact ⟨rfl, keep2 HB.out HE5.out⟩
end Go.Proofs.Ytloilkfloidnjaa
