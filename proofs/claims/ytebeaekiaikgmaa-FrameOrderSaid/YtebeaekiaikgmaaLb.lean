/- Law FrameOrder, the walk. -/
import Derived.Test.YtebeaekiaikgmaaYh
namespace Go.Proofs.Ytebeaekiaikgmaa
open Go.RowKit

/-- Different distances from a number. -/
def dsL (f : Int) (raw : List Int) : Nat → List Int
  | 0 => []
  | k + 1 => if f + raw.getD k 0 % 16 ∈ dsL f raw k then dsL f raw k else dsL f raw k ++ [f + raw.getD k 0 % 16]
theorem ds_len (f : Int) (raw : List Int) : ∀ k, (dsL f raw k).length ≤ k
  | 0 => Nat.le_refl _
  | k + 1 => by
    have := ds_len f raw k
    unfold dsL
    split
    · omega
    · simp; omega
theorem ds_in (f : Int) (raw : List Int) : ∀ k, ∀ x ∈ dsL f raw k, f ≤ x ∧ x ≤ f + 15
  | 0, x, h => by cases h
  | k + 1, x, h => by
    unfold dsL at h
    split at h
    · exact ds_in f raw k x h
    · rcases List.mem_append.1 h with h | h
      · exact ds_in f raw k x h
      · have h1 := Int.emod_nonneg (raw.getD k 0) (show (16 : Int) ≠ 0 by decide)
        have h2 := Int.emod_lt_of_pos (raw.getD k 0) (show (0 : Int) < 16 by decide)
        rw [List.mem_singleton] at h
        omega
theorem ds_nodup (f : Int) (raw : List Int) : ∀ k, (dsL f raw k).Nodup
  | 0 => List.nodup_nil
  | k + 1 => by
    unfold dsL
    split
    · exact ds_nodup f raw k
    · rename_i hn
      rw [List.nodup_append]
      refine ⟨ds_nodup f raw k, by simp, fun a ha b hb => ?_⟩
      rw [List.mem_singleton] at hb
      intro e
      rw [e, hb] at ha
      exact hn ha
theorem getD_mem {l : List Int} {k : Nat} (h : k < l.length) : l.getD k 0 ∈ l := List.mem_of_getElem? (getD_of h)
theorem order_ok {f : Int} {l : List Int} (h0 : 0 ≤ f) (h9 : f ≤ 65535) (hin : ∀ x ∈ l, f ≤ x ∧ x ≤ f + 15) (hnd : l.Nodup) (k : Nat) (hk : k < l.length) : okV l k = true := by
  rw [ok_iff l k hk]
  have hx := hin _ (getD_mem hk)
  obtain ⟨-, -, h3⟩ := sem l k (by omega)
  refine ⟨by omega, by omega, fun ⟨i, a1, _, a3⟩ => ?_, ?_⟩
  · have e1 : l.getD i 0 = l[i]'(by omega) := by simp [show i < l.length by omega]
    have e2 : l.getD k 0 = l[k] := by simp [hk]
    rw [e1, e2] at a3
    exact absurd a3 (List.pairwise_iff_getElem.1 hnd i k (by omega) hk a1)
  · rcases h3 with e | ⟨i, a1, _, a3⟩
    · omega
    · have := hin _ (getD_mem (show i < l.length by omega)); omega
theorem in_rep (l : List Int) (n : Int) : inB l (List.replicate l.length true) n = decide (n ∈ l) := by
  rw [Bool.eq_iff_iff, in_iff, decide_eq_true_iff]
  constructor
  · rintro ⟨k, h1, -, -, h4⟩
    rw [← h4]; exact getD_mem h1
  · intro h
    obtain ⟨k, hk, e⟩ := List.getElem_of_mem h
    exact ⟨k, hk, by rw [List.length_replicate]; exact hk, by rw [List.getD_eq_getElem?_getD, List.getElem?_replicate, if_pos hk]; rfl, by rw [← e]; simp [hk]⟩
set_option maxRecDepth 100000 in
set_option maxHeartbeats 8000000 in
theorem order_any (f : Int) (v : Value) (raw : List Int) (w : World) (f0 : 0 ≤ f) (f9 : f ≤ 65535) (h : BysAt w v raw) (hby : IsBy raw) : Calls Try.prog 9 #[.int .u16 f, v] w fun e w' => e = .returned (.bool true) ∧ Below w.heap.size w w' := by
  have HI0 := Lib.hid h
  obtain ⟨sa, sc, rfl, -, hm, -⟩ := h
  unfold maxLen at hm
  have HBY := Lib.hid hby
  have HF := Lib.hid (show 0 ≤ f ∧ f ≤ 65535 from ⟨f0, f9⟩)
  obtain ⟨i0, hi, hz0, hz1, hz2⟩ := info_parts infoInt
  have HI := Lib.hid (show _ ∧ _ ∧ _ ∧ _ from ⟨hi, hz0, hz1, hz2⟩)
  obtain ⟨j0, ki, kz0, kz1, kz2⟩ := info_parts infoB
  have KI := Lib.hid (show _ ∧ _ ∧ _ ∧ _ from ⟨ki, kz0, kz1, kz2⟩)
  clear hi hz0 hz1 hz2 ki kz0 kz1 kz2 hby
  go_enter Try.func9, Try.ntmps9
  go_wp2_with fail
  refine (head_any _).mono ?_
  rintro e u1 ⟨rfl, b1⟩
  have HB1 := Lib.hid b1
  have HI1 := Lib.hid (HI0.out.step b1)
  clear b1 HI0
  go_wp2_with fail
  obtain ⟨W1, hW1⟩ : ∃ z, u1 = z := ⟨_, rfl⟩
  subst hW1
  go_loopw [6, 7, 8] (fun lv ov iv wr => ∃ k : Nat, k ≤ raw.length ∧ k ≤ 40 ∧ iv = .int .i64 k ∧ Hid (wr.ownsRow u1.heap.size 3 1 lv (dsL f raw k).length ((dsL f raw k).map (Value.int .i64))) ∧ Hid (wr.ownsRow u1.heap.size 4 1 ov (dsL f raw k).length ((List.replicate (dsL f raw k).length true).map Value.bool)) ∧ Hid (Below u1.heap.size u1 wr)) (fun _ _ iv _ => 40 - (intOf iv).toNat)
  case atStart => exact ⟨0, by omega, by omega, rfl, Lib.hid (World.ownsRow_nil _ _ _ _), Lib.hid (World.ownsRow_nil _ _ _ _), Lib.hid (Below.refl _ _)⟩
  case round =>
    obtain ⟨k, hk, hk40, rfl, HL, HO, HW⟩ := hrel
    have hkw : wrap64 ((k : Int) + 1) = k + 1 := IntWalk.wrap64_in _ (by omega)
    have HK8 := Lib.hid (show ((k + 1 : Nat) : Int) = (k : Int) + 1 by omega)
    obtain ⟨la, lc, rfl⟩ := row_slice HL.out
    obtain ⟨oa, oc, rfl⟩ := row_slice HO.out
    have HDL := Lib.hid (ds_len f raw k)
    have HIN := Lib.hid (ds_in f raw k)
    have HND := Lib.hid (ds_nodup f raw k)
    by_cases hlt : k < raw.length ∧ k < 40
    · obtain ⟨hlt, hl40⟩ := hlt
      have HLT := Lib.hid (show k < raw.length ∧ k < 40 from ⟨hlt, hl40⟩)
      have t1 : (k : Int) < raw.length := by omega
      have t2 : decide ((k : Int) < raw.length) = true := by simp; omega
      have t3 : (0 : Int) ≤ k := by omega
      have t4 : decide ((k : Int) < 40) = true := by simp; omega
      obtain ⟨a2, cap2, hva, -, -, hcs⟩ := HI1.out.step HW.out
      obtain ⟨rfl, rfl⟩ : sa = a2 ∧ sc = cap2 := by simpa using hva
      obtain ⟨bk, ok, rfl, hcs2⟩ := hcs (by intro h; rw [h] at hlt; simp at hlt)
      have x0 := hcs2 k _ (getD_of hlt)
      have HG := Lib.hid (by_get HBY.out k)
      have HS := Lib.hid (show dsL f raw (k + 1) = if f + raw.getD k 0 % 16 ∈ dsL f raw k then dsL f raw k else dsL f raw k ++ [f + raw.getD k 0 % 16] from rfl)
      clear hcs hcs2 hva hk hk40
      obtain ⟨r, hr⟩ : ∃ r, raw.getD k 0 = r := ⟨_, rfl⟩
      rw [hr] at x0 HG HS
      clear hr
      obtain ⟨m, hm1⟩ : ∃ m, r % 16 = m := ⟨_, rfl⟩
      have hm16 : 0 ≤ m ∧ m < 16 := hm1 ▸ ⟨Int.emod_nonneg _ (by decide), Int.emod_lt_of_pos _ (by decide)⟩
      rw [hm1] at HS
      have g1 := HG.out.1
      have g2 := HG.out.2
      have g3 : r.tmod 16 = m := by rw [Int.tmod_eq_emod_of_nonneg g1]; exact hm1
      obtain ⟨n, hn⟩ : ∃ n, f + m = n := ⟨_, rfl⟩
      rw [hn] at HS
      have hm17 := hm16.1
      have hm18 := hm16.2
      have g5 : wrap64 m = m := IntWalk.wrap64_in _ (by omega)
      have g6 : wrap64 (f + m) = n := by rw [IntWalk.wrap64_in _ (by omega)]; exact hn
      have g7 : wrap64 f = f := IntWalk.wrap64_in _ (by omega)
      have g8 : wrap64 r = r := IntWalk.wrap64_in _ (by omega)
      obtain ⟨D, hD⟩ : ∃ D, dsL f raw k = D := ⟨_, rfl⟩
      rw [hD] at HL HO HDL HIN HND HS ⊢
      clear hD
      have HNN := Lib.hid hn
      clear hn
      go_wp2_with fail
      have HV := Lib.hid (show f + m = n from HNN.out)
      try rw [HNN.out]
      clear g1 g2 g3 g5 g6 g7 g8 hm1 hm16 hm17 hm18 x0
      refine (in_any _ _ D (List.replicate D.length true) n _ (ints_of_row HL.out) (bos_row (by simp) HO.out)).mono ?_
      rintro e w' ⟨rfl, rfl⟩
      rw [in_rep]
      by_cases hmem : n ∈ D
      · rw [decide_eq_true hmem]
        have HSD := Lib.hid (show dsL f raw (k + 1) = D by rw [HS.out, if_pos hmem])
        clear hmem
        go_wp2
        go_roundw
        case rel => exact ⟨k + 1, by have := HLT.out; omega, by have := HLT.out; omega, by (first | rw [hkw] | skip); rw [HK8.out], by rw [HSD.out]; exact HL, by rw [HSD.out]; exact HO, HW⟩
        case measure => have h2 := HLT.out; have h3 := HK8.out; (first | rw [hkw] | skip); simp [intOf]; omega
      · rw [decide_eq_false hmem]
        have HSD := Lib.hid (show dsL f raw (k + 1) = D ++ [n] by rw [HS.out, if_neg hmem])
        clear hmem
        have k1 : D.length + 1 ≤ maxLen := by have := HDL.out; have := HLT.out; unfold maxLen; omega
        have k2 : (D.length + 1) * 8 ≤ 140737488355328 := by have := HDL.out; have := HLT.out; omega
        have k4 : (D.length + 1) * 1 ≤ 140737488355328 := by have := HDL.out; have := HLT.out; omega
        have HB5 := Lib.hid (show Below u1.heap.size wr (wr.alloc (.cells #[.int .i64 n] 3)) from (Below.refl _ _).alloc HW.out.size _)
        have HR5 := Lib.hid (row_step HL.out (al wr (.cells #[.int .i64 n] 3)))
        have HO5 := Lib.hid (row_step HO.out (al wr (.cells #[.int .i64 n] 3)))
        have c5 := Lib.hid (Nat.le_trans HW.out.size (al wr (.cells #[.int .i64 n] 3)).size)
        go_wp2_with (first | (at_builtin; refine wpList_append_own _ rfl _ _ 22 rfl u1.heap.size 3 i0 (.int .i64 0) 1 8 Try.underlying22 HI.out.1 HI.out.2.1 HI.out.2.2.1 HI.out.2.2.2 rfl (by decide) _ _ _ rfl HR5.out ⟨wr.heap.size, 0, none⟩ 1 1 [.int .i64 n] rfl rfl (one_at (Cs.new _ _ _ _ rfl)) (by simp [Value.oneCell']) k1 k2 c5.out ?_; intro v' w5 hown' hgrow hnil; clear hnil; obtain ⟨pa, pc, rfl⟩ := row_slice hown'; have HP1 := Lib.hid hown'; have HB6 := Lib.hid (HB5.out.grown hgrow c5.out (fun j e => row_own HR5.out e)); have HO6 := Lib.hid (row_grown HO5.out hgrow (fun k e => row_type HO5.out HR5.out (by decide) e)); have HB7 := Lib.hid (HB6.out.alloc (Nat.le_trans HW.out.size HB6.out.size) (.cells #[.bool true] 4)); have HO7 := Lib.hid (row_step HO6.out (al w5 (.cells #[.bool true] 4))); have HP7 := Lib.hid (row_step HP1.out (al w5 (.cells #[.bool true] 4))); have c7 := Lib.hid (Nat.le_trans HW.out.size (Nat.le_trans HB6.out.size (al w5 (.cells #[.bool true] 4)).size)); clear hown' hgrow) | (at_builtin; refine wpList_append_own _ rfl _ _ 26 rfl u1.heap.size 4 j0 (.bool false) 1 1 Try.underlying26 KI.out.1 KI.out.2.1 KI.out.2.2.1 KI.out.2.2.2 rfl (by decide) _ _ _ rfl HO7.out ⟨w5.heap.size, 0, none⟩ 1 1 [.bool true] rfl rfl (one_at (Cs.new _ _ _ _ rfl)) (by simp [Value.oneCell']) k1 k4 c7.out ?_; intro v' w8 hown' hgrow hnil; clear hnil; obtain ⟨qa, qc, rfl⟩ := row_slice hown'; have HO8 := Lib.hid hown'; have HB8 := Lib.hid (HW.out.trans (HB7.out.grown hgrow c7.out (fun j e => row_own HO7.out e))); have HP8 := Lib.hid (row_grown HP7.out hgrow (fun k e => row_type HP7.out HO7.out (by decide) e)); clear hown' hgrow))
        clear k1 k2 k4
        go_roundw
        case rel => exact ⟨k + 1, by have := HLT.out; omega, by have := HLT.out; omega, by (first | rw [hkw] | skip); rw [HK8.out], Lib.hid (by rw [HSD.out, List.length_append, List.map_append]; exact HP8.out), Lib.hid (by rw [HSD.out, List.length_append, show List.replicate (D.length + [n].length) true = List.replicate D.length true ++ [true] from List.replicate_succ', List.map_append]; exact HO8.out), HB8⟩
        case measure => have h2 := HLT.out; have h3 := HK8.out; (first | rw [hkw] | skip); simp [intOf]; omega
    · have HD9 := Lib.hid (show (dsL f raw k).length ≤ 40 by have := HDL.out; omega)
      have HEND := Lib.hid (show ∀ j, j < (dsL f raw k).length → okV (dsL f raw k) j = true from fun j hj => order_ok HF.out.1 HF.out.2 HIN.out HND.out j hj)
      obtain ⟨D, hD⟩ : ∃ D, dsL f raw k = D := ⟨_, rfl⟩
      rw [hD] at HL HD9 HEND ⊢
      have tt : (decide ((k : Int) < raw.length) = false ∧ ¬ k < raw.length) ∨ (decide ((k : Int) < raw.length) = true ∧ k < raw.length ∧ decide ((k : Int) < 40) = false ∧ ¬ k < 40) := by
        by_cases h1 : k < raw.length
        · exact .inr ⟨by simp; omega, h1, by simp; omega, by omega⟩
        · exact .inl ⟨by simp; omega, h1⟩
      clear hD HO HDL HIN HND hlt hk hk40
      rcases tt with ⟨t1, t2⟩ | ⟨t1, t2, t3, t4⟩
      all_goals
        go_wp2_with fail
        refine (accepted_any _ D _ (ints_of_row HL.out) (by have := HD9.out; omega)).mono ?_
        rintro e w3 ⟨b, off, c, ou, rfl, -, ho, b3⟩
        have HOU := Lib.hid ho
        have HBX := Lib.hid ((keep2 b3 (keep2 HW.out HB1.out)).alloc (keep2 b3 (keep2 HW.out HB1.out)).size (.cells #[.int .i64 (stT D D.length).1, .slice (some ⟨b, off, none⟩) 16 c] 28))
        have HOV := Lib.hid (ho.step (al w3 (.cells #[.int .i64 (stT D D.length).1, .slice (some ⟨b, off, none⟩) 16 c] 28)))
        obtain ⟨pa, pc, rfl, -, -⟩ := ho
        rw [okL_len]
        clear b3 HL HOU
        go_wp2_with fail
        obtain ⟨W9, hW9⟩ : ∃ z, w3.alloc (.cells #[.int .i64 (stT D D.length).1, .slice (some ⟨b, off, none⟩) 16 c] 28) = z := ⟨_, rfl⟩
        rw [hW9] at HBX HOV ⊢
        clear hW9 t1
        go_loop [12] (fun iv => ∃ j : Nat, j ≤ D.length ∧ iv = .int .i64 j) (fun iv => D.length - (intOf iv).toNat)
        case atStart => exact ⟨0, by omega, rfl⟩
        case round =>
          obtain ⟨j, hj, rfl⟩ := hrel
          have hj9 : j ≤ 40 := Nat.le_trans hj HD9.out
          have hjw : wrap64 ((j : Int) + 1) = j + 1 := IntWalk.wrap64_in _ (by omega)
          have HJ8 := Lib.hid (show ((j + 1 : Nat) : Int) = (j : Int) + 1 by omega)
          by_cases hlt : j < D.length
          · have HLT := Lib.hid hlt
            have s1 : (j : Int) < D.length := by omega
            have s2 : decide ((j : Int) < D.length) = true := by simp; omega
            have s3 : (0 : Int) ≤ j := by omega
            obtain ⟨a2, cap2, hva, -, hcs⟩ := HOV.out
            rw [okL_len] at hva
            obtain ⟨rfl, rfl⟩ : pa = a2 ∧ pc = cap2 := by simpa using hva
            obtain ⟨bk, ok, rfl, hcs2⟩ := hcs (by intro h; have := okL_len D D.length; rw [h] at this; simp at this; omega)
            have x0 := hcs2 j _ (bo_get (by rw [okL_len]; exact hlt))
            rw [okL_get D hlt, HEND.out j hlt] at x0
            clear hcs hcs2 hva hj
            go_wp2
            go_round
            case rel => exact ⟨j + 1, HLT.out, by first | rw [hjw, HJ8.out] | rw [HJ8.out]⟩
            case measure => have h2 := HLT.out; have h3 := HJ8.out; (first | rw [hjw] | skip); simp [intOf]; omega
          · obtain rfl : j = D.length := by omega
            have s2 : decide ((D.length : Int) < D.length) = false := by simp
            clear hj hlt hjw hj9
            go_wp2
            go_ret
            exact ⟨rfl, HBX.out⟩
end Go.Proofs.Ytebeaekiaikgmaa
