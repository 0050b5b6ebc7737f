/- Frames as bytes: the writer's walk. -/
import Derived.Test.YtebeaekiaikgmaaFc
namespace Go.Proofs.Ytebeaekiaikgmaa
open Go.RowKit

set_option maxRecDepth 100000 in
set_option maxHeartbeats 8000000 in
theorem wframe_any (B : Nat) (a b c d : Int) (sl : Value) (l : List Int) (t : Int) (w0 w : World) (h0 : IntsAt w0 sl l) (hb0 : Below w0.heap.size w0 w) (hB0 : w0.heap.size ≤ B) (hB : B < w.heap.size) (hC : Cs w B #[.slice none 0 0, .int .i64 0]) (hv : vaB a b c d l t = true) :
    Calls Try.prog 47 #[.pointer (some ⟨B, 0, none⟩), .agg #[.int .i64 a, .int .i64 b, .int .i64 c, .int .i64 d, sl, .int .i64 t]] w fun e w' => e = .returned (.tuple #[]) ∧ BufS (w.heap.size + 1) B (encF a b c d l t) w' ∧ Below B w w' := by
  have HL0 := Lib.hid h0
  obtain ⟨sa, sc, rfl, hm, -⟩ := h0
  unfold maxLen at hm
  have HV := Lib.hid (va_parts hv)
  have HBB := Lib.hid (show w0.heap.size ≤ B ∧ B < w.heap.size from ⟨hB0, hB⟩)
  obtain ⟨n0, hn0⟩ : ∃ n, w.heap.size + 1 = n := ⟨_, rfl⟩
  have HN := Lib.hid (show B < n0 ∧ w.heap.size < n0 ∧ n0 = w.heap.size + 1 by omega)
  have HC0 := Lib.hid (Cs.new w w.heap.size #[.int .i64 a, .int .i64 b, .int .i64 c, .int .i64 d, .slice sa l.length sc, .int .i64 t] 24 rfl)
  have HU0 := Lib.hid (show BufS n0 B [] (w.alloc (.cells #[.int .i64 a, .int .i64 b, .int .i64 c, .int .i64 d, .slice sa l.length sc, .int .i64 t] 24)) from ⟨.slice none 0 0, hC.step (al _ _), World.ownsRow_nil _ _ _ _⟩)
  have HW0 := Lib.hid (show Below B w (w.alloc (.cells #[.int .i64 a, .int .i64 b, .int .i64 c, .int .i64 d, .slice sa l.length sc, .int .i64 t] 24)) from (Below.refl _ _).alloc (Nat.le_of_lt hB) _)
  have HI0 := Lib.hid (show Below w0.heap.size w0 (w.alloc (.cells #[.int .i64 a, .int .i64 b, .int .i64 c, .int .i64 d, .slice sa l.length sc, .int .i64 t] 24)) from hb0.trans (HW0.out.mono hB0))
  rw [hn0]
  have HSZ := Lib.hid (show n0 ≤ (w.alloc (.cells #[.int .i64 a, .int .i64 b, .int .i64 c, .int .i64 d, .slice sa l.length sc, .int .i64 t] 24)).heap.size by simp; omega)
  clear hv hB0 hB hC hb0 hn0
  go_enter Try.func47, Try.ntmps47
  go_upto_region 1 with fail
  obtain ⟨W1, hW1⟩ : ∃ z, w.alloc (.cells #[.int .i64 a, .int .i64 b, .int .i64 c, .int .i64 d, .slice sa l.length sc, .int .i64 t] 24) = z := ⟨_, rfl⟩
  rw [hW1] at HC0 HU0 HW0 HI0 HSZ ⊢
  clear hW1
  have x0 := HC0.out.c 0 rfl
  have x1 := HC0.out.c 1 rfl
  have x2 := HC0.out.c 2 rfl
  have x3 := HC0.out.c 3 rfl
  have x4 := HC0.out.c 4 rfl
  have xz := HC0.out.2.2
  go_cut [] from 6 to 18 (fun wc => BufS n0 B (encA a b c d) wc ∧ Blw B n0 W1 wc)
  case first =>
    have HP := Lib.hid (puts_any n0 B 4 [] [a, b, c, d] #[.int .i64 a, .int .i64 b, .int .i64 c, .int .i64 d] 4 W1.drew (HU0.out.step (below_drew _ _)) (fun x h => by cases h) HN.out.1 HSZ.out (by omega) (by omega) rfl (by simp) rfl (by simp) (fun x hx => by
      have h := HV.out
      simp only [List.mem_cons, List.not_mem_nil, or_false] at hx
      omega))
    go_region_law (go_simp; go_at_call 53; refine HP.out.mono ?_; rintro e w3 ⟨rfl, hu3, hb3⟩; have HU3 := Lib.hid hu3; have HW3 := Lib.hid (show Blw B n0 W1 w3 from (Blw.of_below (below_drew _ _) (Nat.le_of_lt HN.out.1)).trans hb3); clear hu3 hb3)
    all_goals go_wp2
    all_goals go_meet
    all_goals exact ⟨HU3.out, HW3.out⟩
  case rest =>
    obtain ⟨hu, hw⟩ := hcut
    have HU1 := Lib.hid hu
    have HW1 := Lib.hid hw
    have HC1 := Lib.hid (HC0.out.blw hw (by have := HBB.out; omega) HN.out.2.1)
    have HS1 := Lib.hid (Nat.le_trans HSZ.out hw.1.size)
    clear hu hw x0 x1 x2 x3 x4 xz HU0
    have x4 := HC1.out.c 4 rfl
    have xz := HC1.out.2.2
    go_upto_region 2 with fail
    go_cut [] from 19 to 26 (fun wd => BufS n0 B (encB a b c d l.length) wd ∧ Blw B n0 W1 wd)
    case first =>
      have HP := Lib.hid (puts_any n0 B 1 (encA a b c d) [(l.length : Int)] #[.int .i64 (l.length : Int)] 1 wc.drew (HU1.out.step (below_drew _ _)) (encA_by _ _ _ _) HN.out.1 HS1.out (by omega) (by omega) rfl (by simp) rfl (by rw [encA_len]; omega) (fun x hx => by
        have h := HV.out
        simp only [List.mem_cons, List.not_mem_nil, or_false] at hx
        omega))
      go_region_law (go_simp; go_at_call 53; refine HP.out.mono ?_; rintro e w3 ⟨rfl, hu3, hb3⟩; have HU3 := Lib.hid hu3; have HW3 := Lib.hid (show Blw B n0 W1 w3 from HW1.out.trans ((Blw.of_below (below_drew _ _) (Nat.le_of_lt HN.out.1)).trans hb3)); clear hu3 hb3)
      all_goals go_wp2
      all_goals go_meet
      all_goals exact ⟨HU3.out, HW3.out⟩
    case rest =>
      obtain ⟨hu, hw⟩ := hcut
      have HU2 := Lib.hid hu
      have HW2 := Lib.hid hw
      have HC2 := Lib.hid (HC0.out.blw hw (by have := HBB.out; omega) HN.out.2.1)
      have HS2 := Lib.hid (Nat.le_trans HSZ.out hw.1.size)
      clear hu hw x4 xz HU1 HW1 HC1 HS1
      have x4 := HC2.out.c 4 rfl
      have xz := HC2.out.2.2
      go_wp2_with fail
      clear x4 xz
      go_loopw [30] (fun kv wr => ∃ k : Nat, k ≤ l.length ∧ kv = .int .i64 k ∧ Hid (BufS n0 B (encB a b c d l.length ++ encs 4 ((l.take k).map (· + 1000000000))) wr) ∧ Hid (Blw B n0 W1 wr)) (fun kv _ => l.length - (intOf kv).toNat)
      case atStart => exact ⟨0, by omega, rfl, Lib.hid (by simpa [encs] using HU2.out), HW2⟩
      case round =>
        clear HU2 HW2 HC2 HS2
        obtain ⟨k, hk, rfl, HU, HW⟩ := hrel
        have HK9 := Lib.hid (show k ≤ 32 by have := HV.out; omega)
        have hkw : wrap64 ((k : Int) + 1) = k + 1 := IntWalk.wrap64_in _ (by have := HK9.out; omega)
        have HK8 := Lib.hid (show ((k + 1 : Nat) : Int) = (k : Int) + 1 by omega)
        have HS := Lib.hid (Nat.le_trans HSZ.out HW.out.1.size)
        by_cases hlt : k < l.length
        · have HLT := Lib.hid hlt
          have t1 : (k : Int) < l.length := by omega
          have t2 : decide ((k : Int) < l.length) = true := by simp; omega
          have t3 : (0 : Int) ≤ k := by omega
          have HIW := Lib.hid (show Below w0.heap.size w0 wr from HI0.out.trans (HW.out.1.mono HBB.out.1))
          obtain ⟨a2, cap2, hva, -, hcs⟩ := HL0.out.step HIW.out
          obtain ⟨rfl, rfl⟩ : sa = a2 ∧ sc = cap2 := by simpa using hva
          obtain ⟨bk, off, rfl, hcs2⟩ := hcs (by intro h; rw [h] at hlt; simp at hlt)
          have y0 := hcs2 k _ (getD_of hlt)
          have HX := Lib.hid (any_no HV.out.2.2.2.2.1 hlt)
          have HT := Lib.hid (show (l.take (k + 1)).map (· + 1000000000) = (l.take k).map (· + 1000000000) ++ [l.getD k 0 + 1000000000] by
            rw [List.take_succ_eq_append_getElem hlt, List.map_append]
            congr 1
            simp [hlt])
          clear hcs hcs2 hva hk
          obtain ⟨x, hx⟩ : ∃ x, l.getD k 0 = x := ⟨_, rfl⟩
          rw [hx] at y0 HX HT
          clear hx
          have hw1 : wrap64 (x + 1000000000) = x + 1000000000 := IntWalk.wrap64_in _ (by have := HX.out; omega)
          have HP := Lib.hid (puts_any n0 B 4 _ [x + 1000000000] #[.int .i64 (x + 1000000000)] 1 wr HU.out ((encB_by _ _ _ _ _).app (encs_by _ _)) HN.out.1 HS.out (by omega) (by omega) rfl (by simp) rfl (by rw [List.length_append, encB_len, encs_len, List.length_map, List.length_take]; have := HK9.out; omega) (fun y hy => by
            have h := HX.out
            simp only [List.mem_cons, List.not_mem_nil, or_false] at hy
            omega))
          go_wp2_with fail
          refine HP.out.mono ?_
          rintro e w3 ⟨rfl, hu3, hb3⟩
          have HU3 := Lib.hid hu3
          have HW3 := Lib.hid (HW.out.trans hb3)
          have HE := Lib.hid (show encB a b c d l.length ++ encs 4 ((l.take (k + 1)).map (· + 1000000000)) = (encB a b c d l.length ++ encs 4 ((l.take k).map (· + 1000000000))) ++ encs 4 [x + 1000000000] by
            rw [HT.out]
            unfold encs
            rw [List.flatMap_append, List.append_assoc])
          clear hu3 hb3 y0 HP HU HW
          go_wp2
          go_roundw
          case rel => exact ⟨k + 1, HLT.out, by (first | rw [hkw] | skip); rw [HK8.out], Lib.hid (by rw [HE.out]; exact HU3.out), HW3⟩
          case measure => have h2 := HLT.out; have h3 := HK8.out; (first | rw [hkw] | skip); simp [intOf]; omega
        · obtain rfl : k = l.length := by omega
          have HUX := Lib.hid (show BufS n0 B (encC a b c d l) wr from by have h := HU.out; rw [List.take_length] at h; exact h)
          have t2 : decide ((l.length : Int) < l.length) = false := by simp
          have HCX := Lib.hid (HC0.out.blw HW.out (by have := HBB.out; omega) HN.out.2.1)
          clear HU hk hlt
          have x5 := HCX.out.c 5 rfl
          have xz := HCX.out.2.2
          go_upto_region 8 with fail
          clear t2
          go_cut [] from 42 to 48 (fun wd => BufS n0 B (encD a b c d l t) wd ∧ Blw B n0 W1 wd)
          case first =>
            have HP := Lib.hid (puts_any n0 B 4 (encC a b c d l) [t] #[.int .i64 t] 1 wr.drew (HUX.out.step (below_drew _ _)) (encC_by _ _ _ _ _) HN.out.1 HS.out (by omega) (by omega) rfl (by simp) rfl (by rw [encC_len]; have := HV.out; omega) (fun x hx => by
              have h := HV.out
              simp only [List.mem_cons, List.not_mem_nil, or_false] at hx
              omega))
            go_region_law (go_simp; go_at_call 53; refine HP.out.mono ?_; rintro e w3 ⟨rfl, hu3, hb3⟩; have HU3 := Lib.hid hu3; have HW3 := Lib.hid (show Blw B n0 W1 w3 from HW.out.trans ((Blw.of_below (below_drew _ _) (Nat.le_of_lt HN.out.1)).trans hb3)); clear hu3 hb3)
            all_goals go_wp2
            all_goals go_meet
            all_goals exact ⟨HU3.out, HW3.out⟩
          case rest =>
            obtain ⟨hu, hw⟩ := hcut
            have HU4 := Lib.hid hu
            have HW4 := Lib.hid hw
            have HS4 := Lib.hid (Nat.le_trans HSZ.out hw.1.size)
            obtain ⟨bv, hC, hrow⟩ := hu
            have z1 := hC.c 1 rfl
            have zz := hC.2.2
            have HSB := Lib.hid (sumL_bd _ (encD_by a b c d l t))
            clear hw hC hrow x5 xz HUX HCX
            obtain ⟨s, hs⟩ : ∃ z, sumL (encD a b c d l t) = z := ⟨_, rfl⟩
            rw [hs] at z1 HSB
            have HSE := Lib.hid hs
            clear hs
            have hs0 : 0 ≤ s := HSB.out.1
            have hm1 : wrap64 (s % 65521) = s % 65521 := IntWalk.wrap64_in _ (by omega)
            have hm2 : s.tmod 65521 = s % 65521 := Int.tmod_eq_emod_of_nonneg hs0
            have hm3 : IntKind.i64.wrap (s % 65521) = s % 65521 := IntWalk.i64_in _ (by omega)
            have HP := Lib.hid (puts_any n0 B 2 (encD a b c d l t) [s % 65521] #[.int .i64 (s % 65521)] 1 wc.drew (HU4.out.step (below_drew _ _)) (encD_by _ _ _ _ _ _) HN.out.1 HS4.out (by omega) (by omega) rfl (by simp) rfl (by rw [encD_len]; have := HV.out; omega) (fun x hx => by
              simp only [List.mem_cons, List.not_mem_nil, or_false] at hx
              omega))
            go_upto_region 9 with fail
            go_region_law (go_simp; go_at_call 53; refine HP.out.mono ?_; rintro e w3 ⟨rfl, hu3, hb3⟩; have HU3 := Lib.hid (show BufS n0 B (encF a b c d l t) w3 from by unfold encF; rw [HSE.out]; exact hu3); have HW3 := Lib.hid (show Below B w w3 from HW0.out.trans (HW4.out.trans ((Blw.of_below (below_drew _ _) (Nat.le_of_lt HN.out.1)).trans hb3)).1); clear hu3 hb3)
            all_goals go_wp2
            all_goals (first | exact bodyPost_ret (results_none rfl _ _ _) rfl ⟨rfl, HU3.out, HW3.out⟩ | (go_end0; exact ⟨rfl, HU3.out, HW3.out⟩))


end Go.Proofs.Ytebeaekiaikgmaa
