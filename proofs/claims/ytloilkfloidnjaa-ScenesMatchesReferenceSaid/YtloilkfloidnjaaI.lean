/- The walk of the reference's 'Wins'. -/
import Derived.Test.YtloilkfloidnjaaN
import Derived.Deep.RegionLaw
namespace Go.Proofs.Ytloilkfloidnjaa
open Go.RowKit Go.WideMaps

set_option maxRecDepth 100000 in
set_option maxHeartbeats 8000000 in
theorem rwins_any (v vn : Value) (L : List Scn) (N : List ByteArray) (d a : ByteArray) (w : World) (h : ScnsAt w v L) (hn : NamesAt w vn N) (F : Fit L N) :
    Calls Try.prog 17 #[v, vn, .agg #[.string d, .string a]] w fun e w' => e = .returned (.int .i64 (rW L N d a)) ∧ Below w.heap.size w w' := by
  have hb0 := (Below.refl w.heap.size w).alloc (Nat.le_refl _) (.cells #[.string d, .string a] 25)
  have HS := Lib.hid (h.step hb0)
  have HN := Lib.hid (hn.step hb0)
  have HB0 := Lib.hid hb0
  obtain ⟨aa, cap, rfl, -⟩ := h.open
  obtain ⟨an, capn, rfl, -, -⟩ := hn
  clear hb0 h
  have hNl := F.names
  have hLl := F.len
  have HF := Lib.hid F
  clear F
  go_enter Try.func17, Try.ntmps17
  go_wp2_with fail
  refine (known_any _ (.slice an N.length capn) L N _ HS.out HN.out).mono ?_
  rintro e w1 ⟨rfl, rfl⟩
  cases hkn : kn L N
  · have HR := Lib.hid (show rW L N d a = -1 by unfold rW; rw [hkn]; rfl)
    go_wp2
    go_ret
    exact ⟨ret_int HR.out.symm, HB0.out⟩
  · have HR := Lib.hid (show rW L N d a = rwN L N d a N.length by unfold rW; rw [hkn]; rfl)
    go_wp2_with fail
    go_loopw [7, 8] (fun b i wr => ∃ (m : Nat) (nb : Int), m ≤ N.length ∧ i = .int .i64 m ∧ b = .int .i64 nb ∧ Hid (nb = rwN L N d a m) ∧ Hid (nb = -1 ∨ ∃ q : Nat, nb = (q : Int) ∧ q < L.length) ∧ Hid (Below (w.alloc (.cells #[.string d, .string a] 25)).heap.size (w.alloc (.cells #[.string d, .string a] 25)) wr)) (fun _ i _ => N.length - (intOf i).toNat)
    case atStart => exact ⟨0, -1, by omega, rfl, rfl, Lib.hid rfl, Lib.hid (Or.inl rfl), Lib.hid (Below.refl _ _)⟩
    case round =>
      obtain ⟨m, nb, hm, rfl, rfl, HV, HQ, HB⟩ := hrel
      by_cases hlt : m < N.length
      · obtain ⟨hix, hil⟩ := fInt_ix hkn hlt
        have hns := HN.out.step HB.out
        obtain ⟨a2, cap2, hv2, -, hx2⟩ := hns
        simp only [Value.slice.injEq, true_and] at hv2
        obtain ⟨rfl, rfl⟩ := hv2
        obtain ⟨b2, o2, rfl, hcs⟩ := hx2 (by intro h; rw [h] at hlt; simp at hlt)
        have n0 := hcs m _ (name_get hlt)
        have HStep := Lib.hid (show rwN L N d a (m + 1) = if (lI (stN L (ixOf L (nameAt N m))) d a).isSome && (decide (rwN L N d a m < 0) || decide (lyr L (rwN L N d a m).toNat ≤ lyr L (ixOf L (nameAt N m)))) then (ixOf L (nameAt N m) : Int) else rwN L N d a m from rfl)
        have HS2 := Lib.hid (HS.out.step HB.out)
        have HX := Lib.hid hix
        clear hcs hix hx2
        generalize nameAt N m = nm at *
        generalize ixOf L nm = k at *
        obtain ⟨a3, cap3, hv3, hx3⟩ := HS2.out.open
        simp only [Value.slice.injEq, true_and] at hv3
        obtain ⟨rfl, rfl⟩ := hv3
        obtain ⟨b, off, rfl, hsc⟩ := hx3 (by intro h; rw [h] at hil; simp at hil)
        have HC := Lib.hid hsc
        obtain ⟨s0, s1, sa, sc, s2, hss⟩ := hsc k hil
        have c0 := (HB.out.cell (p := ⟨w.heap.size, 0, none⟩) (by simp)).trans (cell_new' w #[.string d, .string a] 25 _ rfl 0)
        have c1 := (HB.out.cell (p := ⟨w.heap.size, 1, none⟩) (by simp)).trans (cell_new' w #[.string d, .string a] 25 _ rfl 1)
        simp at c0 c1
        clear hsc hx3
        obtain ⟨xd, xa, xn, xt, xu, hx⟩ : ∃ xd xa xn xt xu, sAt (stN L k) (lI (stN L k) d a) = ⟨xd, xa, xn, xt, xu⟩ := ⟨_, _, _, _, _, rfl⟩
        have HLast : Hid (∀ W, Below wr.heap.size wr W → Calls Try.prog 18 #[.agg #[.string (L.getD k zN).name, .int .i64 (lyr L k), .slice sa (stN L k).length sc], .agg #[.string d, .string a]] W fun e w2 => e = .returned (.tuple #[.agg #[.string xd, .string xa, .string xn, .int .i64 xt, .string xu], .bool (lI (stN L k) d a).isSome]) ∧ Below W.heap.size W w2) := Lib.hid (fun W hW => by
          have := last_any (L.getD k zN).name (lyr L k) (.slice sa (stN L k).length sc) (stN L k) d a W (hss.step hW)
          unfold LastPost at this
          rw [hx] at this
          exact this)
        clear hx hss
        have hR := rw_cases (L := L) (o := (lI (stN L k) d a).isSome) (nb := nb) (k := k) HQ.out (rwN L N d a (m + 1)) (by rw [HV.out]; exact HStep.out)
        have HRW := Lib.hid hR
        clear hR
        generalize (lI (stN L k) d a).isSome = o at *
        generalize hln : (stN L k).length = ln at *
        generalize (L.getD k zN).name = kn' at *
        go_wp2_with fail
        refine (find_any _ L nm _ HS2.out).mono ?_
        rintro e wf ⟨rfl, rfl⟩
        rw [HX.out]
        have hkl : (k : Int) < L.length := by omega
        go_wp2_with fail
        have hbA : Below wr.heap.size wr (wr.alloc (.cells #[.string ⟨#[]⟩, .string ⟨#[]⟩, .string ⟨#[]⟩, .int .i64 0, .string ⟨#[]⟩] 40)).drew := ((Below.refl _ _).alloc (Nat.le_refl _) _).trans (below_drew _ _)
        have cA0 := keep1 hbA c0
        have cA1 := keep1 hbA c1
        have sA0 := keep1 hbA s0
        have sA1 := keep1 hbA s1
        have sA2 := keep1 hbA s2
        have HbA := Lib.hid hbA
        have HA : Hid (∀ j, (wr.alloc (.cells #[.string ⟨#[]⟩, .string ⟨#[]⟩, .string ⟨#[]⟩, .int .i64 0, .string ⟨#[]⟩] 40)).drew.cell? ⟨wr.heap.size, j, none⟩ = (#[.string ⟨#[]⟩, .string ⟨#[]⟩, .string ⟨#[]⟩, .int .i64 0, .string ⟨#[]⟩] : Array Value)[j]? ∧ (wr.alloc (.cells #[.string ⟨#[]⟩, .string ⟨#[]⟩, .string ⟨#[]⟩, .int .i64 0, .string ⟨#[]⟩] 40)).drew.frozen? ⟨wr.heap.size, j, none⟩ = false) :=
          Lib.hid fun j => ⟨cell_new' wr #[.string ⟨#[]⟩, .string ⟨#[]⟩, .string ⟨#[]⟩, .int .i64 0, .string ⟨#[]⟩] 40 _ rfl j, frozen_new wr #[.string ⟨#[]⟩, .string ⟨#[]⟩, .string ⟨#[]⟩, .int .i64 0, .string ⟨#[]⟩] 40 j⟩
        clear hbA
        go_region_law (first | (go_simp; go_at_call 18; refine (HLast.out _ (by first | exact below_drew _ _ | exact HbA.out)).mono ?_; rintro e w2 ⟨rfl, hb2⟩; (first | (have z0 := keep1 hb2 (HA.out 0).1; have z1 := keep1 hb2 (HA.out 1).1; have z2 := keep1 hb2 (HA.out 2).1; have z3 := keep1 hb2 (HA.out 3).1; have z4 := keep1 hb2 (HA.out 4).1; have y0 := keepf hb2 (HA.out 0).1 (HA.out 0).2; have y1 := keepf hb2 (HA.out 1).1 (HA.out 1).2; have y2 := keepf hb2 (HA.out 2).1 (HA.out 2).2; have y3 := keepf hb2 (HA.out 3).1 (HA.out 3).2; have y4 := keepf hb2 (HA.out 4).1 (HA.out 4).2) | skip); have HB2 := Lib.hid hb2; clear hb2))
        all_goals
          have HE : Hid (Below wr.heap.size wr w2) := Lib.hid (by first | exact (below_drew _ _).trans (HB2.out.mono (by simp)) | exact HbA.out.trans (HB2.out.mono (by simp)))
          have hz2 := HE.out.size
          have hzb := HB.out.size
          have hAl : Below wr.heap.size wr (w2.alloc (.cells #[.string xd, .string xa, .string xn, .int .i64 xt, .string xu] 40)) := HE.out.alloc hz2 _
          have hSt : Below wr.heap.size wr (((((w2.setCell ⟨wr.heap.size, 0, none⟩ (.string xd)).setCell ⟨wr.heap.size, 1, none⟩ (.string xa)).setCell ⟨wr.heap.size, 2, none⟩ (.string xn)).setCell ⟨wr.heap.size, 3, none⟩ (.int .i64 xt)).setCell ⟨wr.heap.size, 4, none⟩ (.string xu)) := five_set HE.out (Nat.le_refl _) _ _ _ _ _
          have HAl := Lib.hid hAl
          have HSt := Lib.hid hSt
          have sA := keep1 hAl s1
          have sS := keep1 hSt s1
          have HAl2 := Lib.hid (HB.out.trans (hAl.mono hzb))
          have HSt2 := Lib.hid (HB.out.trans (hSt.mono hzb))
          clear hAl hSt
          have HAl3 : ∀ n, Hid (Below (w.alloc (.cells #[.string d, .string a] 25)).heap.size (w.alloc (.cells #[.string d, .string a] 25)) ((w2.alloc (.cells #[.string xd, .string xa, .string xn, .int .i64 xt, .string xu] 40)).drewN n)) := fun n => Lib.hid (HAl2.out.trans (below_drewN' _ _ n))
          have HSt3 : ∀ n, Hid (Below (w.alloc (.cells #[.string d, .string a] 25)).heap.size (w.alloc (.cells #[.string d, .string a] 25)) ((((((w2.setCell ⟨wr.heap.size, 0, none⟩ (.string xd)).setCell ⟨wr.heap.size, 1, none⟩ (.string xa)).setCell ⟨wr.heap.size, 2, none⟩ (.string xn)).setCell ⟨wr.heap.size, 3, none⟩ (.int .i64 xt)).setCell ⟨wr.heap.size, 4, none⟩ (.string xu)).drewN n)) := fun n => Lib.hid (HSt2.out.trans (below_drewN' _ _ n))
          have hrw := HRW.out
          rcases hrw with ⟨rfl, hr⟩ | ⟨rfl, rfl, hr⟩ | ⟨q, rfl, rfl, hq, ht, hr⟩ | ⟨q, rfl, rfl, hq, ht, hr⟩
          · have HR2 := Lib.hid hr.symm
            have HQ2 := HQ
            clear hr
            go_wp2
            go_quiet (fail)
            go_wp2
            go_roundw
            case rel => exact ⟨m + 1, _, by omega, by go_num, rfl, HR2, HQ2, by first | (with_reducible exact HAl3 _) | (with_reducible exact HSt3 _)⟩
            case measure => simp [intOf]; omega
          · have HR2 := Lib.hid hr.symm
            have HQ2 : Hid ((k : Int) = -1 ∨ ∃ z : Nat, (k : Int) = (z : Int) ∧ z < L.length) := Lib.hid (Or.inr ⟨k, rfl, hil⟩)
            clear hr
            go_wp2
            go_quiet (fail)
            go_wp2
            go_roundw
            case rel => exact ⟨m + 1, _, by omega, by go_num, rfl, HR2, HQ2, by first | (with_reducible exact HAl3 _) | (with_reducible exact HSt3 _)⟩
            case measure => simp [intOf]; omega
          · have HR2 := Lib.hid hr.symm
            have HQ2 : Hid ((q : Int) = -1 ∨ ∃ z : Nat, (q : Int) = (z : Int) ∧ z < L.length) := Lib.hid (Or.inr ⟨q, rfl, hq⟩)
            obtain ⟨-, g1, -⟩ := HC.out q hq
            have gA := keep1 HAl.out g1
            have gS := keep1 HSt.out g1
            have hq0 : decide (((q : Nat) : Int) < 0) = false := by rw [decide_eq_false_iff_not]; omega
            clear hr
            generalize lyr L q = lq at *
            generalize lyr L k = lk at *
            go_wp2
            go_quiet (fail)
            go_wp2
            go_roundw
            case rel => exact ⟨m + 1, _, by omega, by go_num, rfl, HR2, HQ2, by first | (with_reducible exact HAl3 _) | (with_reducible exact HSt3 _)⟩
            case measure => simp [intOf]; omega
          · have HR2 := Lib.hid hr.symm
            have HQ2 : Hid ((k : Int) = -1 ∨ ∃ z : Nat, (k : Int) = (z : Int) ∧ z < L.length) := Lib.hid (Or.inr ⟨k, rfl, hil⟩)
            obtain ⟨-, g1, -⟩ := HC.out q hq
            have gA := keep1 HAl.out g1
            have gS := keep1 HSt.out g1
            have hq0 : decide (((q : Nat) : Int) < 0) = false := by rw [decide_eq_false_iff_not]; omega
            clear hr
            generalize lyr L q = lq at *
            generalize lyr L k = lk at *
            go_wp2
            go_quiet (fail)
            go_wp2
            go_roundw
            case rel => exact ⟨m + 1, _, by omega, by go_num, rfl, HR2, HQ2, by first | (with_reducible exact HAl3 _) | (with_reducible exact HSt3 _)⟩
            case measure => simp [intOf]; omega
      · have hml : m = N.length := by omega
        subst hml
        go_wp2
        go_ret
        exact ⟨ret_int (HV.out.trans HR.out.symm), HB0.out.trans (HB.out.mono (by simp))⟩
end Go.Proofs.Ytloilkfloidnjaa
