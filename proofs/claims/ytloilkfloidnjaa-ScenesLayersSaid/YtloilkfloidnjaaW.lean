/- The walk of ScenesLayers. -/
import Derived.Test.YtloilkfloidnjaaU
namespace Go.Proofs.Ytloilkfloidnjaa
open Go.RowKit Go.WideMaps

/-- The m-th named scene sets an attribute. -/
def setsN (L : List Scn) (N : List ByteArray) (d a : ByteArray) (m : Nat) : Bool := (lI (stN L (ixOf L (nameAt N m))) d a).isSome
def anyN (L : List Scn) (N : List ByteArray) (d a : ByteArray) : Nat → Bool
  | 0 => false
  | m + 1 => anyN L N d a m || setsN L N d a m
def lastN (L : List Scn) (N : List ByteArray) (r : Int) : Nat → Int
  | 0 => -1
  | m + 1 => if ((ixOf L (nameAt N m) : Int) == r) then (m : Int) else lastN L N r m
theorem anyN_of {L : List Scn} {N : List ByteArray} {d a : ByteArray} : ∀ m, anyN L N d a m = true → ∃ k, k < m ∧ setsN L N d a k = true
  | 0, h => by cases h
  | m + 1, h => by
    unfold anyN at h
    rw [Bool.or_eq_true] at h
    rcases h with h | h
    · obtain ⟨k, h1, h2⟩ := anyN_of m h
      exact ⟨k, by omega, h2⟩
    · exact ⟨m, by omega, h⟩
theorem anyN_no {L : List Scn} {N : List ByteArray} (hkn : kn L N = true) {d a : ByteArray} (h : rW L N d a = -1) : anyN L N d a N.length = false := by
  rw [Bool.eq_false_iff]
  intro hy
  obtain ⟨k, h1, h2⟩ := anyN_of _ hy
  obtain ⟨q, hq⟩ := rwN_ge hkn h2 N.length (Nat.le_refl _) h1
  have hr : rW L N d a = rwN L N d a N.length := by unfold rW; rw [hkn]; rfl
  rw [hr, hq] at h
  omega
theorem lastN_ge {L : List Scn} {N : List ByteArray} {r : Int} {j : Nat} (h : (ixOf L (nameAt N j) : Int) = r) : ∀ m, j < m → (j : Int) ≤ lastN L N r m
  | 0, h => absurd h (by omega)
  | m + 1, hm => by
    unfold lastN
    by_cases e : j = m
    · subst e
      rw [if_pos (by simpa using h)]
      omega
    · split
      · omega
      · exact lastN_ge h m (by omega)
theorem layers_inv {L : List Scn} {N : List ByteArray} (hkn : kn L N = true) {d a : ByteArray} : ∀ m, m ≤ N.length → ∀ p : Nat, rwN L N d a m = p → ∀ j, j < m → setsN L N d a j = true →
    lyr L (ixOf L (nameAt N j)) ≤ lyr L p ∧ (lyr L (ixOf L (nameAt N j)) = lyr L p → ixOf L (nameAt N j) ≠ p → ∃ j', j < j' ∧ j' < m ∧ ixOf L (nameAt N j') = p)
  | 0, _, _, _, _, hj, _ => absurd hj (by omega)
  | m + 1, hm, p, hp, j, hj, hs => by
    unfold rwN at hp
    split at hp
    · rename_i hc
      have hpm : ixOf L (nameAt N m) = p := by omega
      rw [Bool.and_eq_true, Bool.or_eq_true, decide_eq_true_iff, decide_eq_true_iff] at hc
      by_cases e : j = m
      · subst e
        exact ⟨by rw [hpm]; omega, fun _ hne => absurd hpm hne⟩
      · obtain ⟨p0, h0⟩ := rwN_ge hkn hs m (by omega) (by omega)
        obtain ⟨h1, -⟩ := layers_inv hkn m (by omega) p0 h0 j (by omega) hs
        rw [h0, Int.toNat_natCast] at hc
        have h2 : lyr L p0 ≤ lyr L (ixOf L (nameAt N m)) := by rcases hc.2 with h | h <;> omega
        rw [hpm] at h2
        exact ⟨by omega, fun _ _ => ⟨m, by omega, by omega, hpm⟩⟩
    · rename_i hc
      by_cases e : j = m
      · subst e
        have hs' : (lI (stN L (ixOf L (nameAt N j))) d a).isSome = true := hs
        rw [hs', Bool.true_and, Bool.or_eq_true, decide_eq_true_iff, decide_eq_true_iff, hp, Int.toNat_natCast] at hc
        have h2 : ¬ lyr L p ≤ lyr L (ixOf L (nameAt N j)) := fun h => hc (.inr h)
        exact ⟨by omega, fun h _ => by omega⟩
      · obtain ⟨h1, h2⟩ := layers_inv hkn m (by omega) p hp j (by omega) hs
        exact ⟨h1, fun h3 h4 => by obtain ⟨j', h5, h6, h7⟩ := h2 h3 h4; exact ⟨j', h5, by omega, h7⟩⟩
theorem layers_facts {L : List Scn} {N : List ByteArray} (hkn : kn L N = true) {d a : ByteArray} {q : Nat} (hq : rW L N d a = q) :
    0 ≤ lastN L N q N.length ∧ ∀ j, j < N.length → setsN L N d a j = true → decide (lyr L q < lyr L (ixOf L (nameAt N j))) = false ∧ (lyr L (ixOf L (nameAt N j)) = lyr L q → ixOf L (nameAt N j) ≠ q → decide (lastN L N q N.length < (j : Int)) = false) := by
  have hr : rW L N d a = rwN L N d a N.length := by unfold rW; rw [hkn]; rfl
  rw [hr] at hq
  refine ⟨?_, fun j hj hs => ?_⟩
  · obtain ⟨k, h1, h2, -⟩ := rwN_set (L := L) (N := N) (d := d) (a := a) N.length (Nat.le_refl _) (by rw [hq]; omega)
    have := lastN_ge (L := L) (N := N) (r := q) (j := k) (by rw [← h2, hq]) N.length h1
    omega
  · obtain ⟨h1, h2⟩ := layers_inv hkn N.length (Nat.le_refl _) q hq j hj hs
    refine ⟨by rw [decide_eq_false_iff_not]; omega, fun h3 h4 => ?_⟩
    obtain ⟨j', h5, h6, h7⟩ := h2 h3 h4
    have := lastN_ge (L := L) (N := N) (r := q) (j := j') (by rw [h7]) N.length h6
    rw [decide_eq_false_iff_not]; omega
/-- 'Last' of the scene with an index, in later worlds. -/
theorem last_of {W0 : World} {b off : Nat} {L : List Scn} (h : ScnCells W0 b off L) {q : Nat} (hq : q < L.length) (d a : ByteArray) :
    ∃ qn ql sa ln sc xd xa xn xt xu, W0.cell? ⟨b, off + q * 3, none⟩ = some (.string qn) ∧ W0.cell? ⟨b, off + q * 3 + 1, none⟩ = some (.int .i64 ql) ∧ W0.cell? ⟨b, off + q * 3 + 2, none⟩ = some (.slice sa ln sc) ∧ ql = lyr L q ∧
      (∀ W, Below W0.heap.size W0 W → Calls Try.prog 18 #[.agg #[.string qn, .int .i64 ql, .slice sa ln sc], .agg #[.string d, .string a]] W fun e W' => e = .returned (.tuple #[.agg #[.string xd, .string xa, .string xn, .int .i64 xt, .string xu], .bool (lI (stN L q) d a).isSome]) ∧ Below W.heap.size W W') := by
  obtain ⟨s0, s1, sa, sc, s2, hss⟩ := h q hq
  obtain ⟨xd, xa, xn, xt, xu, hy⟩ : ∃ yd ya yn yt yu, sAt (stN L q) (lI (stN L q) d a) = ⟨yd, ya, yn, yt, yu⟩ := ⟨_, _, _, _, _, rfl⟩
  refine ⟨_, _, sa, _, sc, xd, xa, xn, xt, xu, s0, s1, s2, rfl, fun W hW => ?_⟩
  have := last_any (L.getD q zN).name (lyr L q) (.slice sa (stN L q).length sc) (stN L q) d a W (hss.step hW)
  unfold LastPost at this
  rw [hy] at this
  exact this
set_option maxRecDepth 100000 in
set_option maxHeartbeats 8000000 in
theorem layers_walk (v : Value) (L : List Scn) (vn : Value) (N : List ByteArray) (d a : ByteArray) (w : World) (h : ScnsAt w v L) (hk : ∀ x ∈ L, x.ok) (hn : NamesAt w vn N) (hnk : ∀ x ∈ N, x.size ≤ maxLen) (hd : d.size ≤ maxLen) (ha : a.size ≤ maxLen) :
    Calls Try.prog 6 #[v, vn, .agg #[.string d, .string a]] w fun e w' => e = .returned (.bool true) ∧ Below w.heap.size w w' := by
  have B1 := al w (.cells #[.string d, .string a] 25)
  have HS := Lib.hid (h.step B1)
  have HN := Lib.hid (hn.step B1)
  have HB1 := Lib.hid B1
  have HC0 := Lib.hid (cell_new' w #[.string d, .string a] 25 _ rfl 0)
  have HC1 := Lib.hid (cell_new' w #[.string d, .string a] 25 _ rfl 1)
  clear B1
  have HF := Lib.hid (fun hf => few_fit (L := L) (N := N) hf hk hnk)
  obtain ⟨a1, c1, rfl, -⟩ := h.open
  obtain ⟨an, cn, rfl, -, -⟩ := hn
  clear h hk hnk
  go_enter Try.func6, Try.ntmps6
  go_wp2_with fail
  refine (head_any _).mono ?_
  rintro e w2 ⟨rfl, b2⟩
  have HS2 := Lib.hid (HS.out.step b2)
  have HN2 := Lib.hid (HN.out.step b2)
  have HB2 := Lib.hid (keep2 b2 HB1.out)
  have C0 := Lib.hid (keep1 b2 HC0.out)
  have C1 := Lib.hid (keep1 b2 HC1.out)
  clear b2
  go_wp2_with fail
  refine (few_call HS2.out HN2.out).mono ?_
  rintro e w3 ⟨rfl, rfl⟩
  cases hf : few L N.length
  · go_wp2
    go_ret
    exact ⟨rfl, HB2.out⟩
  · have FT := Lib.hid (HF.out hf)
    go_wp2_with fail
    refine (known_any _ _ L N _ HS2.out HN2.out).mono ?_
    rintro e w4 ⟨rfl, rfl⟩
    cases hkn : kn L N
    · go_wp2
      go_ret
      exact ⟨rfl, HB2.out⟩
    · have HK := Lib.hid hkn
      have z0 := C0.out
      have z1 := C1.out
      simp at z0 z1
      have HW0 := Lib.hid (wins_any _ _ L N d a _ HS2.out HN2.out FT.out hd ha)
      rw [wI_eq] at HW0
      have HWC := Lib.hid (win_cases HK.out d a)
      have HLF := Lib.hid (fun q => layers_facts HK.out (d := d) (a := a) (q := q))
      have HNO := Lib.hid (anyN_no HK.out (d := d) (a := a))
      have HQ := Lib.hid (show ∀ q : Nat, rW L N d a = q → q < L.length from fun q hq => by
        have hr : rW L N d a = rwN L N d a N.length := by unfold rW; rw [HK.out]; rfl
        rcases rwN_range HK.out d a N.length (Nat.le_refl _) with h | ⟨q', h, h2⟩ <;> rw [hr, h] at hq <;> omega)
      have hNl := FT.out.names
      clear hkn
      generalize rW L N d a = rr at *
      go_wp2_with fail
      refine HW0.out.mono ?_
      rintro e w5 ⟨rfl, b5⟩
      have HS5 := Lib.hid (HS2.out.step b5)
      have HN5 := Lib.hid (HN2.out.step b5)
      have HB5 := Lib.hid (keep2 b5 HB2.out)
      have Z0 := Lib.hid (keep1 b5 z0)
      have Z1 := Lib.hid (keep1 b5 z1)
      clear b5 z0 z1
      go_wp2_with fail
      go_loopw [9, 10, 11] (fun lv sv i wr => ∃ m : Nat, m ≤ N.length ∧ i = .int .i64 m ∧ lv = .int .i64 (lastN L N rr m) ∧ sv = .bool (anyN L N d a m) ∧ Hid (Below w5.heap.size w5 wr)) (fun _ _ i _ => N.length - (intOf i).toNat)
      case atStart => exact ⟨0, by omega, rfl, rfl, rfl, Lib.hid (Below.refl _ _)⟩
      case round =>
        obtain ⟨m, hm, rfl, rfl, rfl, HB⟩ := hrel
        by_cases hlt : m < N.length
        · obtain ⟨hix, hil⟩ := fInt_ix HK.out hlt
          obtain ⟨an2, cn2, hne, -, hnx⟩ := HN5.out.step HB.out
          simp only [Value.slice.injEq, true_and] at hne
          obtain ⟨rfl, rfl⟩ := hne
          obtain ⟨b2, o2, rfl, hcs⟩ := hnx (by intro h; rw [h] at hlt; simp at hlt)
          have n0 := hcs m _ (name_get hlt)
          have HIX := Lib.hid hix
          have HSR := Lib.hid (HS5.out.step HB.out)
          obtain ⟨aa, cap, hae, hsx⟩ := HSR.out.open
          simp only [Value.slice.injEq, true_and] at hae
          obtain ⟨rfl, rfl⟩ := hae
          obtain ⟨b, off, rfl, hsc⟩ := hsx (by intro h; rw [h] at hil; simp at hil)
          obtain ⟨qn, ql, sa, ln, sc, xd, xa, xn, xt, xu, s0, s1, s2, -, hlast⟩ := last_of hsc hil d a
          have hst : (lI (stN L (ixOf L (nameAt N m))) d a).isSome = setsN L N d a m := rfl
          rw [hst] at hlast
          have HLast := Lib.hid hlast
          have HA1 := Lib.hid (show anyN L N d a (m + 1) = (anyN L N d a m || setsN L N d a m) from rfl)
          have HL1 := Lib.hid (show lastN L N rr (m + 1) = if ((ixOf L (nameAt N m) : Int) == rr) then (m : Int) else lastN L N rr m from rfl)
          have r0 := keep1 HB.out Z0.out
          have r1 := keep1 HB.out Z1.out
          clear hcs hnx hix hsc hsx hst hlast
          generalize nameAt N m = nm at *
          generalize ixOf L nm = k at *
          generalize setsN L N d a m = st at *
          generalize anyN L N d a m = av at *
          generalize lastN L N rr m = lv at *
          have hkl : (k : Int) < L.length := by omega
          go_wp2_with (go_at_call 21; go_must (refine (find_any _ L nm _ HSR.out).mono ?_); rintro e wf ⟨rfl, rfl⟩; rw [HIX.out])
          have hbA : Below wr.heap.size wr (wr.alloc c40).drew := ((Below.refl _ _).alloc (Nat.le_refl _) _).trans (below_drew _ _)
          have HbA := Lib.hid hbA
          have r0A := keep1 hbA r0
          have r1A := keep1 hbA r1
          have s0A := keep1 hbA s0
          have s1A := keep1 hbA s1
          have s2A := keep1 hbA s2
          have HA : Hid (∀ j, (wr.alloc c40).drew.cell? ⟨wr.heap.size, j, none⟩ = (#[.string ⟨#[]⟩, .string ⟨#[]⟩, .string ⟨#[]⟩, .int .i64 0, .string ⟨#[]⟩] : Array Value)[j]? ∧ (wr.alloc c40).drew.frozen? ⟨wr.heap.size, j, none⟩ = false) :=
            Lib.hid fun j => ⟨cell_new' wr _ 40 _ rfl j, frozen_new wr _ 40 j⟩
          clear hbA
          go_upto_region 11 with fail
          go_cut [13, 14] from 37 to 65 (fun p q wc => ∃ n : Nat, p = .pointer (some ⟨n, 0, none⟩) ∧ q = .bool st ∧ Five wc n xd xa xn xt xu ∧ Below wr.heap.size wr wc)
          case first =>
           go_region_law (first | (go_simp; go_at_call 18; refine (HLast.out _ (by first | exact below_drew _ _ | exact HbA.out)).mono ?_; rintro e w4 ⟨rfl, hb4⟩; have HB4 : Hid (Below wr.heap.size wr w4) := Lib.hid (by first | exact (below_drew _ _).trans (hb4.mono (by simp)) | exact HbA.out.trans (hb4.mono (by simp))); (first | (have x0 := keep1 hb4 (HA.out 0).1; have x1 := keep1 hb4 (HA.out 1).1; have x2 := keep1 hb4 (HA.out 2).1; have x3 := keep1 hb4 (HA.out 3).1; have x4 := keep1 hb4 (HA.out 4).1; have v0 := keepf hb4 (HA.out 0).1 (HA.out 0).2; have v1 := keepf hb4 (HA.out 1).1 (HA.out 1).2; have v2 := keepf hb4 (HA.out 2).1 (HA.out 2).2; have v3 := keepf hb4 (HA.out 3).1 (HA.out 3).2; have v4 := keepf hb4 (HA.out 4).1 (HA.out 4).2) | skip); clear hb4))
           all_goals
            have hz4 := HB4.out.size
            go_wp2_with fail
            go_meet
            first
              | with_reducible exact ⟨_, rfl, rfl, five_cells x0 x1 x2 x3 x4 _ _ _ _ _, five_set HB4.out (Nat.le_refl _) _ _ _ _ _⟩
              | exact ⟨_, rfl, rfl, five_new _ _ _ _ _ _, HB4.out.alloc hz4 _⟩
          case rest =>
            obtain ⟨n2, rfl, rfl, -, hBX⟩ := hcut
            have HBX := Lib.hid (keep2 hBX HB.out)
            clear hBX
            cases hkq : ((k : Int) == rr)
            · have HL2 := Lib.hid (HL1.out.trans (if_neg (by rw [hkq]; exact Bool.false_ne_true)))
              cases av <;> cases st <;>
              · go_wp2
                go_roundw
                case rel => exact ⟨m + 1, by omega, by go_num, by rw [HL2.out], by rw [HA1.out]; rfl, HBX⟩
                case measure => simp [intOf]; omega
            · have HL2 := Lib.hid (HL1.out.trans (if_pos hkq))
              cases av <;> cases st <;>
              · go_wp2
                go_roundw
                case rel => exact ⟨m + 1, by omega, by go_num, by rw [HL2.out], by rw [HA1.out]; rfl, HBX⟩
                case measure => simp [intOf]; omega
        · have hml : m = N.length := by omega
          subst hml
          rcases HWC.out with ⟨rfl, -⟩ | ⟨q, j, rfl, -, hlj⟩
          · have HN1 := Lib.hid (HNO.out rfl)
            rw [HN1.out]
            go_wp2
            go_ret
            exact ⟨rfl, HB5.out.trans (HB.out.mono HB5.out.size)⟩
          · have hlf := HLF.out q rfl
            have HLF2 := Lib.hid hlf.2
            have hl0 : decide (lastN L N (q : Int) N.length < 0) = false := by rw [decide_eq_false_iff_not]; omega
            clear hlf HLF HNO
            have hql := HQ.out q rfl
            have hq1 : decide ((L.length : Int) ≤ (q : Int)) = false := by rw [decide_eq_false_iff_not]; omega
            have hq1n : decide (L.length ≤ q) = false := by rw [decide_eq_false_iff_not]; omega
            have hq0 : decide ((q : Int) < 0) = false := by rw [decide_eq_false_iff_not]; omega
            have hqi : (q : Int) < L.length := by omega
            clear HQ HWC
            generalize hLN : lastN L N (q : Int) N.length = lv at *
            generalize anyN L N d a N.length = av at *
            have HSR := Lib.hid (HS5.out.step HB.out)
            obtain ⟨aa, cap, hae, hsx⟩ := HSR.out.open
            simp only [Value.slice.injEq, true_and] at hae
            obtain ⟨rfl, rfl⟩ := hae
            obtain ⟨b, off, rfl, hsc⟩ := hsx (by intro h; rw [h] at hql; simp at hql)
            have HSC := Lib.hid hsc
            obtain ⟨qn, ql, sa, ln, sc, xd, xa, xn, xt, xu, s0, s1, s2, hqy, hlast⟩ := last_of hsc hql d a
            rw [hlj] at hlast
            have HLast := Lib.hid (show ∀ W, Below wr.heap.size wr W → Calls Try.prog 18 #[.agg #[.string qn, .int .i64 ql, .slice sa ln sc], .agg #[.string d, .string a]] W fun e W' => e = .returned (.tuple #[.agg #[.string xd, .string xa, .string xn, .int .i64 xt, .string xu], .bool true]) ∧ Below W.heap.size W W' from hlast)
            have r0 := keep1 HB.out Z0.out
            have r1 := keep1 HB.out Z1.out
            have HQY := Lib.hid hqy
            clear hsx hsc hlast hqy
            go_wp2_with fail
            have hbA : Below wr.heap.size wr (wr.alloc c40).drew := ((Below.refl _ _).alloc (Nat.le_refl _) _).trans (below_drew _ _)
            have HbA := Lib.hid hbA
            have r0A := keep1 hbA r0
            have r1A := keep1 hbA r1
            have s0A := keep1 hbA s0
            have s1A := keep1 hbA s1
            have s2A := keep1 hbA s2
            have HA : Hid (∀ j, (wr.alloc c40).drew.cell? ⟨wr.heap.size, j, none⟩ = (#[.string ⟨#[]⟩, .string ⟨#[]⟩, .string ⟨#[]⟩, .int .i64 0, .string ⟨#[]⟩] : Array Value)[j]? ∧ (wr.alloc c40).drew.frozen? ⟨wr.heap.size, j, none⟩ = false) :=
              Lib.hid fun j => ⟨cell_new' wr _ 40 _ rfl j, frozen_new wr _ 40 j⟩
            clear hbA
            go_upto_region 19 with fail
            go_cut [15, 16] from 85 to 93 (fun p q wc => ∃ n : Nat, p = .pointer (some ⟨n, 0, none⟩) ∧ q = .bool true ∧ Five wc n xd xa xn xt xu ∧ Below wr.heap.size wr wc)
            case first =>
             go_region_law (first | (go_simp; go_at_call 18; refine (HLast.out _ (by first | exact below_drew _ _ | exact HbA.out)).mono ?_; rintro e w4 ⟨rfl, hb4⟩; have HB4 : Hid (Below wr.heap.size wr w4) := Lib.hid (by first | exact (below_drew _ _).trans (hb4.mono (by simp)) | exact HbA.out.trans (hb4.mono (by simp))); (first | (have x0 := keep1 hb4 (HA.out 0).1; have x1 := keep1 hb4 (HA.out 1).1; have x2 := keep1 hb4 (HA.out 2).1; have x3 := keep1 hb4 (HA.out 3).1; have x4 := keep1 hb4 (HA.out 4).1; have v0 := keepf hb4 (HA.out 0).1 (HA.out 0).2; have v1 := keepf hb4 (HA.out 1).1 (HA.out 1).2; have v2 := keepf hb4 (HA.out 2).1 (HA.out 2).2; have v3 := keepf hb4 (HA.out 3).1 (HA.out 3).2; have v4 := keepf hb4 (HA.out 4).1 (HA.out 4).2) | skip); clear hb4))
             all_goals
              have hz4 := HB4.out.size
              go_wp2_with fail
              go_meet
              first
                | with_reducible exact ⟨_, rfl, rfl, five_cells x0 x1 x2 x3 x4 _ _ _ _ _, five_set HB4.out (Nat.le_refl _) _ _ _ _ _⟩
                | exact ⟨_, rfl, rfl, five_new _ _ _ _ _ _, HB4.out.alloc hz4 _⟩
            case rest =>
              obtain ⟨n2, rfl, rfl, -, hBX⟩ := hcut
              have HZ0 := Lib.hid (keep1 hBX r0)
              have HZ1 := Lib.hid (keep1 hBX r1)
              have HSW := Lib.hid (HSR.out.step hBX)
              have HCW := Lib.hid (HSC.out.step hBX)
              have HNW := Lib.hid (HN5.out.step (keep2 hBX HB.out))
              have HBW := Lib.hid (HB5.out.trans ((keep2 hBX HB.out).mono HB5.out.size))
              clear hBX r0 r1 s0 s1 s2 HSC HSR HS5 HN5 HB5 HB Z0 Z1
              go_wp2_with fail
              go_loopw [17] (fun i w7 => ∃ m : Nat, m ≤ N.length ∧ i = .int .i64 m ∧ Hid (Below wc.heap.size wc w7)) (fun i _ => N.length - (intOf i).toNat)
              case atStart => exact ⟨0, by omega, rfl, Lib.hid (Below.refl _ _)⟩
              case round =>
                obtain ⟨m, hm, rfl, HB⟩ := hrel
                by_cases hlt : m < N.length
                · obtain ⟨hix, hil⟩ := fInt_ix HK.out hlt
                  obtain ⟨an2, cn2, hne, -, hnx⟩ := HNW.out.step HB.out
                  simp only [Value.slice.injEq, true_and] at hne
                  obtain ⟨rfl, rfl⟩ := hne
                  obtain ⟨b2, o2, rfl, hcs⟩ := hnx (by intro h; rw [h] at hlt; simp at hlt)
                  have n0 := hcs m _ (name_get hlt)
                  have HIX := Lib.hid hix
                  have HSR := Lib.hid (HSW.out.step HB.out)
                  have hsc := HCW.out.step HB.out
                  obtain ⟨-, l1, -⟩ := hsc q hql
                  rw [← HQY.out] at l1
                  obtain ⟨kn', kl, sa, ln, sc, xd, xa, xn, xt, xu, s0, s1, s2, hky, hlast⟩ := last_of hsc hil d a
                  have hst : (lI (stN L (ixOf L (nameAt N m))) d a).isSome = setsN L N d a m := rfl
                  rw [hst] at hlast
                  have HLast := Lib.hid hlast
                  have HFM := Lib.hid (HLF2.out m hlt)
                  rw [← hky, ← HQY.out] at HFM
                  have r0 := keep1 HB.out HZ0.out
                  have r1 := keep1 HB.out HZ1.out
                  clear hcs hnx hix hsc hst hlast hky
                  generalize nameAt N m = nm at *
                  generalize ixOf L nm = k at *
                  generalize setsN L N d a m = st at *
                  have hkl : (k : Int) < L.length := by omega
                  go_wp2_with (go_at_call 21; go_must (refine (find_any _ L nm _ HSR.out).mono ?_); rintro e wf ⟨rfl, rfl⟩; rw [HIX.out])
                  have hbA : Below wr.heap.size wr (wr.alloc c40).drew := ((Below.refl _ _).alloc (Nat.le_refl _) _).trans (below_drew _ _)
                  have HbA := Lib.hid hbA
                  have r0A := keep1 hbA r0
                  have r1A := keep1 hbA r1
                  have s0A := keep1 hbA s0
                  have s1A := keep1 hbA s1
                  have s2A := keep1 hbA s2
                  have HA : Hid (∀ j, (wr.alloc c40).drew.cell? ⟨wr.heap.size, j, none⟩ = (#[.string ⟨#[]⟩, .string ⟨#[]⟩, .string ⟨#[]⟩, .int .i64 0, .string ⟨#[]⟩] : Array Value)[j]? ∧ (wr.alloc c40).drew.frozen? ⟨wr.heap.size, j, none⟩ = false) :=
                    Lib.hid fun j => ⟨cell_new' wr _ 40 _ rfl j, frozen_new wr _ 40 j⟩
                  clear hbA
                  go_upto_region 26 with fail
                  go_cut [19, 20] from 96 to 153 (fun p q wc => ∃ n : Nat, p = .pointer (some ⟨n, 0, none⟩) ∧ q = .bool st ∧ Five wc n xd xa xn xt xu ∧ Below wr.heap.size wr wc)
                  case first =>
                   go_region_law (first | (go_simp; go_at_call 18; refine (HLast.out _ (by first | exact below_drew _ _ | exact HbA.out)).mono ?_; rintro e w4 ⟨rfl, hb4⟩; have HB4 : Hid (Below wr.heap.size wr w4) := Lib.hid (by first | exact (below_drew _ _).trans (hb4.mono (by simp)) | exact HbA.out.trans (hb4.mono (by simp))); (first | (have x0 := keep1 hb4 (HA.out 0).1; have x1 := keep1 hb4 (HA.out 1).1; have x2 := keep1 hb4 (HA.out 2).1; have x3 := keep1 hb4 (HA.out 3).1; have x4 := keep1 hb4 (HA.out 4).1; have v0 := keepf hb4 (HA.out 0).1 (HA.out 0).2; have v1 := keepf hb4 (HA.out 1).1 (HA.out 1).2; have v2 := keepf hb4 (HA.out 2).1 (HA.out 2).2; have v3 := keepf hb4 (HA.out 3).1 (HA.out 3).2; have v4 := keepf hb4 (HA.out 4).1 (HA.out 4).2) | skip); clear hb4))
                   all_goals
                    have hz4 := HB4.out.size
                    go_wp2_with fail
                    go_meet
                    first
                      | with_reducible exact ⟨_, rfl, rfl, five_cells x0 x1 x2 x3 x4 _ _ _ _ _, five_set HB4.out (Nat.le_refl _) _ _ _ _ _⟩
                      | exact ⟨_, rfl, rfl, five_new _ _ _ _ _ _, HB4.out.alloc hz4 _⟩
                  case rest =>
                    obtain ⟨n2, rfl, rfl, -, hBX⟩ := hcut
                    have HBX := Lib.hid (keep2 hBX HB.out)
                    have t1 := keep1 hBX s1
                    have u1 := keep1 hBX l1
                    clear hBX s0 s1 s2 l1
                    cases st
                    · go_wp2
                      go_quiet (fail)
                      go_wp2
                      go_roundw
                      case rel => exact ⟨m + 1, by omega, by go_num, Lib.hid (HBX.out.trans (below_drewN' _ _ _))⟩
                      case measure => simp [intOf]; omega
                    · obtain ⟨g1, g2⟩ := HFM.out rfl
                      cases he : (kl == ql)
                      · clear g2
                        go_wp2
                        go_quiet (fail)
                        go_wp2
                        go_roundw
                        case rel => exact ⟨m + 1, by omega, by go_num, Lib.hid (HBX.out.trans (below_drewN' _ _ _))⟩
                        case measure => simp [intOf]; omega
                      · by_cases hkq : k = q
                        · have hne : ((k : Int) != (q : Int)) = false := by simp [hkq]
                          clear g2
                          subst hkq
                          go_wp2
                          go_quiet (fail)
                          go_wp2
                          go_roundw
                          case rel => exact ⟨m + 1, by omega, by go_num, Lib.hid (HBX.out.trans (below_drewN' _ _ _))⟩
                          case measure => simp [intOf]; omega
                        · have hne : ((k : Int) != (q : Int)) = true := by simp; omega
                          have g3 := g2 (by simpa using he) hkq
                          clear g2
                          go_wp2
                          go_quiet (fail)
                          go_wp2
                          go_roundw
                          case rel => exact ⟨m + 1, by omega, by go_num, Lib.hid (HBX.out.trans (below_drewN' _ _ _))⟩
                          case measure => simp [intOf]; omega
                · have hml : m = N.length := by omega
                  subst hml
                  go_wp2
                  go_ret
                  exact ⟨rfl, HBW.out.trans (HB.out.mono HBW.out.size)⟩
end Go.Proofs.Ytloilkfloidnjaa
