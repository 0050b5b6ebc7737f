/- The walk of ScenesWinners. -/
import Derived.Test.YtloilkfloidnjaaU
namespace Go.Proofs.Ytloilkfloidnjaa
open Go.RowKit Go.WideMaps

theorem sR_cases {x : Sett} {d a : ByteArray} (h : sR x d a = false) : (x.dev.toList == d.toList) = false ∨ ((x.dev.toList == d.toList) = true ∧ (x.attr.toList == a.toList) = false) := by
  unfold sR sE at h
  cases h1 : (x.dev.toList == d.toList)
  · exact .inl rfl
  · rw [h1] at h; exact .inr ⟨rfl, by simpa using h⟩
theorem setts_cells {w : World} {v : Value} {l : List Sett} (h : SettsAt w v l) : ∃ a cap, v = .slice a l.length cap ∧ (l ≠ [] → ∃ b off, a = some ⟨b, off, none⟩ ∧ ∀ (i : Nat) (x : Sett), l[i]? = some x →
    w.cell? ⟨b, off + i * 5, none⟩ = some (.string x.dev) ∧ w.cell? ⟨b, off + i * 5 + 1, none⟩ = some (.string x.attr) ∧ w.cell? ⟨b, off + i * 5 + 2, none⟩ = some (.string x.name) ∧ w.cell? ⟨b, off + i * 5 + 3, none⟩ = some (.int .i64 x.ten) ∧ w.cell? ⟨b, off + i * 5 + 4, none⟩ = some (.string x.unit)) := by
  obtain ⟨a, cap, h1, -, h2⟩ := h
  exact ⟨a, cap, h1, h2⟩
set_option maxRecDepth 100000 in
set_option maxHeartbeats 8000000 in
theorem winners_walk (v : Value) (L : List Scn) (vn : Value) (N : List ByteArray) (d a : ByteArray) (w : World) (h : ScnsAt w v L) (hk : ∀ x ∈ L, x.ok) (hn : NamesAt w vn N) (hnk : ∀ x ∈ N, x.size ≤ maxLen) (hd : d.size ≤ maxLen) (ha : a.size ≤ maxLen) :
    Calls Try.prog 4 #[v, vn, .agg #[.string d, .string a]] w fun e w' => e = .returned (.bool true) ∧ Below w.heap.size w w' := by
  have B1 := al w (.cells #[.string d, .string a] 25)
  have HS := Lib.hid (h.step B1)
  have HN := Lib.hid (hn.step B1)
  have HB1 := Lib.hid B1
  have HC0 := Lib.hid (cell_new' w #[.string d, .string a] 25 _ rfl 0)
  have HC1 := Lib.hid (cell_new' w #[.string d, .string a] 25 _ rfl 1)
  clear B1
  have HF := Lib.hid (fun hf => few_fit (L := L) (N := N) hf hk hnk)
  obtain ⟨a1, c1, rfl, -⟩ := h.open
  obtain ⟨an, cn, rfl, -, -⟩ := hn
  clear h hnk
  go_enter Try.func4, Try.ntmps4
  go_wp2_with fail
  refine (head_any _).mono ?_
  rintro e w2 ⟨rfl, b2⟩
  have HS2 := Lib.hid (HS.out.step b2)
  have HN2 := Lib.hid (HN.out.step b2)
  have HB2 := Lib.hid (keep2 b2 HB1.out)
  have C0 := Lib.hid (keep1 b2 HC0.out)
  have C1 := Lib.hid (keep1 b2 HC1.out)
  clear b2
  go_wp2_with fail
  refine (few_call HS2.out HN2.out).mono ?_
  rintro e w3 ⟨rfl, rfl⟩
  cases hf : few L N.length
  · go_wp2
    go_ret
    exact ⟨rfl, HB2.out⟩
  · have FT := Lib.hid (HF.out hf)
    go_wp2_with fail
    refine (overlay_any _ _ L N _ HS2.out HN2.out FT.out).mono ?_
    rintro e w4 ⟨ho, b4⟩
    have HO := Lib.hid ho
    have HS4 := Lib.hid (HS2.out.step b4)
    have HN4 := Lib.hid (HN2.out.step b4)
    have HB4' := Lib.hid (keep2 b4 HB2.out)
    have z0 := keep1 b4 C0.out
    have z1 := keep1 b4 C1.out
    simp at z0 z1
    clear ho b4
    have HW16 : Hid (∀ (x y : ByteArray), x.size ≤ maxLen → y.size ≤ maxLen → ∀ W, Below w4.heap.size w4 W → Calls Try.prog 16 #[.slice a1 L.length c1, .slice an N.length cn, .agg #[.string x, .string y]] W fun e w' => e = .returned (.int .i64 (rW L N x y)) ∧ Below W.heap.size W w') := Lib.hid (fun x y hx hy W hW => by
      rw [← wI_eq]
      exact wins_any _ _ L N x y W (HS4.out.step hW) (HN4.out.step hW) FT.out hx hy)
    rcases HO.out with ⟨hkn, rfl⟩ | ⟨hkn, u, rfl, hsu⟩
    · have hrr : rW L N d a = -1 := by unfold rW; rw [hkn]; rfl
      have HW := HW16.out d a hd ha _ (Below.refl _ _)
      rw [hrr] at HW
      have HWH := Lib.hid HW
      clear HO hkn HW hrr
      go_wp2_with fail
      refine HWH.out.mono ?_
      rintro e w5 ⟨rfl, b5⟩
      go_wp2
      go_ret
      exact ⟨rfl, keep2 b5 HB4'.out⟩
    · have HK := Lib.hid hkn
      have Hsu := Lib.hid hsu
      clear HO hkn hsu
      have hov : (ovl L N).length ≤ 400 := ovl_len FT.out HK.out
      have HOF := Lib.hid (ovl_of HK.out d a)
      obtain ⟨ua, uc, rfl, -⟩ := setts_cells Hsu.out
      have HW0 := Lib.hid (HW16.out d a hd ha _ (Below.refl _ _))
      generalize hrr : rW L N d a = rr at *
      clear hrr
      go_wp2_with fail
      refine HW0.out.mono ?_
      rintro e w5 ⟨rfl, b5⟩
      have X5 := Lib.hid b5
      have z05 := keep1 b5 z0
      have z15 := keep1 b5 z1
      have Z0 := Lib.hid z05
      have Z1 := Lib.hid z15
      clear b5 z0 z1 z05 z15
      go_wp2_with fail
      go_loopw [11] (fun i wr => ∃ k : Nat, k ≤ (ovl L N).length ∧ i = .int .i64 k ∧ Hid (Below w5.heap.size w5 wr)) (fun i _ => (ovl L N).length - (intOf i).toNat)
      case atStart => exact ⟨0, by omega, rfl, Lib.hid (Below.refl _ _)⟩
      case round =>
        obtain ⟨k, hk2, rfl, HB⟩ := hrel
        by_cases hlt : k < (ovl L N).length
        · have X4 := Lib.hid (keep2 HB.out X5.out)
          obtain ⟨ua', uc', hue, huc⟩ := setts_cells (Hsu.out.step X4.out)
          simp only [Value.slice.injEq, true_and] at hue
          obtain ⟨rfl, rfl⟩ := hue
          obtain ⟨bu, ou, rfl, hcu⟩ := huc (by intro h; rw [h] at hlt; simp at hlt)
          have HCU := Lib.hid hcu
          obtain ⟨t0, t1, t2, t3, t4⟩ := hcu k _ (getD_of hlt)
          have HNE := Lib.hid (fun (j : Nat) (hj : j < k) => ovl_ne HK.out hlt (k := j) (by omega) (by omega))
          obtain ⟨q, j, h1, h2, h3, h4, h5⟩ := ovl_at HK.out hlt
          have hkl : (k : Int) < (ovl L N).length := by omega
          clear hcu huc h3
          generalize hx : (ovl L N).getD k zS = x at *
          obtain ⟨xd, xa, xn, xt, xu⟩ := x
          simp only at t0 t1 t2 t3 t4 h1 h4
          go_wp2_with fail
          go_loopw [12] (fun i w2 => ∃ m n : Nat, m ≤ k ∧ i = .int .i64 m ∧ w2 = wr.drewN n) (fun i _ => k - (intOf i).toNat)
          case atStart => exact ⟨0, 0, by omega, rfl, (World.drewN_zero _).symm⟩
          case round =>
            obtain ⟨m, n, hm, rfl, rfl⟩ := hrel
            by_cases hlt2 : m < k
            · obtain ⟨f0, f1, -, -, -⟩ := HCU.out m _ (getD_of (Nat.lt_trans hlt2 hlt))
              have hne := HNE.out m hlt2
              have hml : (m : Int) < (ovl L N).length := by omega
              have hmk : (m : Int) < k := by omega
              generalize (ovl L N).getD m zS = y at *
              obtain ⟨yd, ya, yn, yt, yu⟩ := y
              simp only at f0 f1
              have hnc := sR_cases hne
              simp only at hnc
              clear hne
              rcases hnc with hd1 | ⟨hd1, hd2⟩
              · have hd1' : (xd.toList == yd.toList) = false := by rw [← hd1]; exact Bool.beq_comm ..
                go_wp2
                go_quiet (fail)
                go_wp2
                go_roundw
                case rel => exact ⟨m + 1, _, by omega, by go_num, rfl⟩
                case measure => simp [intOf]; omega
              · have hd1' : (xd.toList == yd.toList) = true := by rw [← hd1]; exact Bool.beq_comm ..
                have hd2' : (xa.toList == ya.toList) = false := by rw [← hd2]; exact Bool.beq_comm ..
                go_wp2
                go_quiet (fail)
                go_wp2
                go_roundw
                case rel => exact ⟨m + 1, _, by omega, by go_num, rfl⟩
                case measure => simp [intOf]; omega
            · have hmk : m = k := by omega
              subst hmk
              have hok : Sett.ok ⟨xd, xa, xn, xt, xu⟩ := by
                have := (FT.out.ok _ (scn_mem h2)).2 _ (sett_mem (l := stN L q) (lI_some h4).1)
                have e : (L.getD q zN).sets = stN L q := rfl
                rw [h5] at this
                exact this
              have HD := Lib.hid (HB.out.trans (below_drewN' _ _ n))
              have HWk := HW16.out xd xa hok.1 hok.2 (wr.drewN n) (keep2 HD.out X5.out)
              rw [h1] at HWk
              have HWH := Lib.hid HWk
              clear HWk hok h1 HNE
              have hq0 : decide ((q : Int) < 0) = false := by rw [decide_eq_false_iff_not]; omega
              have hq1 : decide ((L.length : Int) ≤ (q : Int)) = false := by rw [decide_eq_false_iff_not]; omega
              have hql : (q : Int) < L.length := by omega
              go_wp2_with fail
              refine HWH.out.mono ?_
              rintro e w6 ⟨rfl, b6⟩
              have HB6 := Lib.hid (keep2 b6 HD.out)
              have X6 := Lib.hid (keep2 HB6.out X5.out)
              have r0 := keep1 b6 (show (wr.drewN n).cell? _ = _ from t0)
              have r1 := keep1 b6 (show (wr.drewN n).cell? _ = _ from t1)
              have r2 := keep1 b6 (show (wr.drewN n).cell? _ = _ from t2)
              have r3 := keep1 b6 (show (wr.drewN n).cell? _ = _ from t3)
              have r4 := keep1 b6 (show (wr.drewN n).cell? _ = _ from t4)
              clear b6 t0 t1 t2 t3 t4
              obtain ⟨aa, cap, hae, hcs⟩ := (HS4.out.step X6.out).open
              simp only [Value.slice.injEq, true_and] at hae
              obtain ⟨rfl, rfl⟩ := hae
              obtain ⟨b, off, rfl, hsc⟩ := hcs (by intro h; rw [h] at h2; simp at h2)
              obtain ⟨s0, s1, sa, sc, s2, hss⟩ := hsc q h2
              have HLast : Hid (∀ W, Below w6.heap.size w6 W → Calls Try.prog 18 #[.agg #[.string (L.getD q zN).name, .int .i64 (lyr L q), .slice sa (stN L q).length sc], .agg #[.string xd, .string xa]] W fun e W' => e = .returned (.tuple #[.agg #[.string xd, .string xa, .string xn, .int .i64 xt, .string xu], .bool true]) ∧ Below W.heap.size W W') := Lib.hid (fun W hW => by
                have := last_any (L.getD q zN).name (lyr L q) (.slice sa (stN L q).length sc) (stN L q) xd xa W (hss.step hW)
                unfold LastPost at this
                rw [h4] at this
                simp only [sAt, h5, Option.isSome_some] at this
                exact this)
              clear hsc hcs hss h5 h4
              generalize (stN L q).length = ln at *
              generalize (L.getD q zN).name = qn at *
              generalize lyr L q = ql at *
              have hbA : Below w6.heap.size w6 (w6.alloc c40).drew := ((Below.refl _ _).alloc (Nat.le_refl _) _).trans (below_drew _ _)
              have HbA := Lib.hid hbA
              have r0A := keep1 hbA r0
              have r1A := keep1 hbA r1
              have s0A := keep1 hbA s0
              have s1A := keep1 hbA s1
              have s2A := keep1 hbA s2
              have HA : Hid (∀ j, (w6.alloc c40).drew.cell? ⟨w6.heap.size, j, none⟩ = (#[.string ⟨#[]⟩, .string ⟨#[]⟩, .string ⟨#[]⟩, .int .i64 0, .string ⟨#[]⟩] : Array Value)[j]? ∧ (w6.alloc c40).drew.frozen? ⟨w6.heap.size, j, none⟩ = false) :=
                Lib.hid fun j => ⟨cell_new' w6 _ 40 _ rfl j, frozen_new w6 _ 40 j⟩
              clear hbA
              go_upto_region 19 with fail
              go_cut [14, 15] from 46 to 106 (fun p q wc => ∃ n : Nat, p = .pointer (some ⟨n, 0, none⟩) ∧ q = .bool true ∧ Five wc n xd xa xn xt xu ∧ Below w6.heap.size w6 wc)
              case first =>
               go_region_law (first | (go_simp; go_at_call 18; refine (HLast.out _ (by first | exact below_drew _ _ | exact HbA.out)).mono ?_; rintro e w4 ⟨rfl, hb4⟩; have HB4 : Hid (Below w6.heap.size w6 w4) := Lib.hid (by first | exact (below_drew _ _).trans (hb4.mono (by simp)) | exact HbA.out.trans (hb4.mono (by simp))); (first | (have x0 := keep1 hb4 (HA.out 0).1; have x1 := keep1 hb4 (HA.out 1).1; have x2 := keep1 hb4 (HA.out 2).1; have x3 := keep1 hb4 (HA.out 3).1; have x4 := keep1 hb4 (HA.out 4).1; have v0 := keepf hb4 (HA.out 0).1 (HA.out 0).2; have v1 := keepf hb4 (HA.out 1).1 (HA.out 1).2; have v2 := keepf hb4 (HA.out 2).1 (HA.out 2).2; have v3 := keepf hb4 (HA.out 3).1 (HA.out 3).2; have v4 := keepf hb4 (HA.out 4).1 (HA.out 4).2) | skip); clear hb4))
               all_goals
                have hz4 := HB4.out.size
                go_wp2_with fail
                go_meet
                first
                  | with_reducible exact ⟨_, rfl, rfl, five_cells x0 x1 x2 x3 x4 _ _ _ _ _, five_set HB4.out (Nat.le_refl _) _ _ _ _ _⟩
                  | exact ⟨_, rfl, rfl, five_new _ _ _ _ _ _, HB4.out.alloc hz4 _⟩
              case rest =>
                obtain ⟨n2, rfl, rfl, ⟨x0, x1, x2, x3, x4⟩, hBX⟩ := hcut
                have y0 := keep1 hBX r0
                have y1 := keep1 hBX r1
                have y2 := keep1 hBX r2
                have y3 := keep1 hBX r3
                have y4 := keep1 hBX r4
                have HBX := Lib.hid (keep2 hBX HB6.out)
                clear hBX
                go_wp2
                go_quiet (fail)
                go_wp2
                go_roundw
                case rel => exact ⟨m + 1, by omega, by go_num, Lib.hid (HBX.out.trans (below_drewN' _ _ _))⟩
                case measure => simp [intOf]; omega
        · have hkl : k = (ovl L N).length := by omega
          subst hkl
          have X4 := Lib.hid (keep2 HB.out X5.out)
          have z0 := keep1 HB.out Z0.out
          have z1 := keep1 HB.out Z1.out
          have HOfC := Lib.hid (of_any _ (ovl L N) d a wr (Hsu.out.step X4.out))
          go_wp2_with fail
          refine HOfC.out.mono ?_
          rintro e w6 ⟨rfl, b6⟩
          rw [HOF.out]
          have HE := Lib.hid (keep2 b6 (keep2 X4.out HB4'.out))
          clear b6
          generalize sAt (ovl L N) (lI (ovl L N) d a) = x at *
          obtain ⟨xd, xa, xn, xt, xu⟩ := x
          unfold Sett.val
          cases hb : decide (0 ≤ rr)
          · go_wp2
            go_ret
            refine ⟨ret_bool ?_, HE.out.alloc HE.out.size _⟩
            rfl
          · go_wp2
            go_ret
            refine ⟨ret_bool ?_, HE.out.alloc HE.out.size _⟩
            rfl
end Go.Proofs.Ytloilkfloidnjaa
