/- Quiet hours: the reference. -/
import Derived.Test.YtmejpmnipejpiaaHi
namespace Go.Proofs.Ytmejpmnipejpiaa
open Go.RowKit

theorem qx_hit {l : List (Int × Int)} {k : Nat} {x : Int} (h : k < l.length) (hb : cov (l.getD k (0, 0)).1 (l.getD k (0, 0)).2 x = true) : Qx l x = true := by
  unfold Qx
  rw [List.any_eq_true]
  exact ⟨l[k], List.getElem_mem h, by rwa [show l.getD k (0, 0) = l[k] by simp [h]] at hb⟩
theorem qx_none {l : List (Int × Int)} {x : Int} (h : ∀ j, j < l.length → cov (l.getD j (0, 0)).1 (l.getD j (0, 0)).2 x = false) : Qx l x = false := by
  unfold Qx
  rw [List.any_eq_false]
  intro p hp
  obtain ⟨j, hj, rfl⟩ := List.mem_iff_getElem.1 hp
  have := h j hj
  rw [show l.getD j (0, 0) = l[j] by simp [hj]] at this
  rw [this]; simp
theorem covers_q (f t m : Int) (b : Bool) (hb : cov f t (m % 1440) = b) (w : World) (hm1 : -2000000000 ≤ m) (hm2 : m ≤ 2000000000) : Calls Try.prog 28 #[.agg #[.int .i64 f, .int .i64 t], .int .i64 m] w fun e w' => e = .returned (.bool b) ∧ Below w.heap.size w w' := by
  rw [← hb]; exact covers_any f t m w hm1 hm2
set_option maxRecDepth 100000 in
set_option maxHeartbeats 4000000 in
theorem rquiet_any (v : Value) (l : List (Int × Int)) (m : Int) (w : World) (h : WinsAt w v l) (hm1 : -2000000000 ≤ m) (hm2 : m ≤ 2000000000) : Calls Try.prog 25 #[v, .int .i64 m] w fun e w' => e = .returned (.bool (Qm l m)) ∧ Below w.heap.size w w' := by
  have HL := Lib.hid h
  obtain ⟨a, cap, rfl, hcp, hm, hc⟩ := h
  unfold maxLen at hm
  clear hc hcp
  have HM := Lib.hid (show -2000000000 ≤ m ∧ m ≤ 2000000000 from ⟨hm1, hm2⟩)
  clear hm1 hm2
  go_enter Try.func25, Try.ntmps25
  go_wp2_with fail
  go_loopw [5] (fun i wr => ∃ k : Nat, k ≤ l.length ∧ i = .int .i64 k ∧ Hid (∀ j, j < k → cov (l.getD j (0, 0)).1 (l.getD j (0, 0)).2 (m % 1440) = false) ∧ Hid (Below w.heap.size w wr)) (fun i _ => l.length - (intOf i).toNat)
  case atStart => exact ⟨0, by omega, rfl, fun j h => absurd h (by omega), Below.refl _ _⟩
  case round =>
    obtain ⟨k, hk, rfl, HN, HB⟩ := hrel
    by_cases hlt : k < l.length
    · obtain ⟨a2, cap2, hva, -, -, hcs⟩ := HL.out.step HB.out
      obtain ⟨rfl, rfl⟩ : a = a2 ∧ cap = cap2 := by simpa using hva
      obtain ⟨b, off, rfl, hcs2⟩ := hcs (by intro h; rw [h] at hlt; simp at hlt)
      obtain ⟨x0, x1⟩ := hcs2 k _ (win_get (d := (0, 0)) hlt)
      clear hcs hcs2 hva
      have xb : b < wr.heap.size := World.block_lt_of_cell? _ _ x0
      cases hcv : cov (l.getD k (0, 0)).1 (l.getD k (0, 0)).2 (m % 1440)
      · have HC := Lib.hid hcv
        have HN2 := Lib.hid (show ∀ j, j < k + 1 → cov (l.getD j (0, 0)).1 (l.getD j (0, 0)).2 (m % 1440) = false from fun j h => by
          by_cases hjk : j = k
          · rw [hjk]; exact hcv
          · exact HN.out j (by omega))
        clear hcv
        generalize (l.getD k (0, 0)).1 = f at *
        generalize (l.getD k (0, 0)).2 = t at *
        go_wp2_with fail
        refine (covers_q f t m _ HC.out _ HM.out.1 HM.out.2).mono ?_
        rintro e w1 ⟨rfl, b1⟩
        have HB2 := Lib.hid (keep2 b1 HB.out)
        clear b1 x0 x1 xb
        go_wp2
        go_roundw
        case rel => exact ⟨k + 1, hlt, by go_num, HN2, HB2⟩
        case measure => simp [intOf]; omega
      · have HC := Lib.hid hcv
        have HQ := Lib.hid (show Qm l m = true from qx_hit hlt hcv)
        clear hcv
        generalize (l.getD k (0, 0)).1 = f at *
        generalize (l.getD k (0, 0)).2 = t at *
        go_wp2_with fail
        refine (covers_q f t m _ HC.out _ HM.out.1 HM.out.2).mono ?_
        rintro e w1 ⟨rfl, b1⟩
        have HB2 := Lib.hid (keep2 b1 HB.out)
        clear b1 x0 x1 xb
        go_wp2
        go_ret
        exact ⟨ret_bool (a := true) HQ.out.symm, HB2.out⟩
    · obtain rfl : k = l.length := by omega
      have HQ := Lib.hid (show Qm l m = false from qx_none HN.out)
      go_wp2
      go_ret
      exact ⟨ret_bool (a := false) HQ.out.symm, HB.out⟩
set_option maxRecDepth 100000 in
set_option maxHeartbeats 4000000 in
theorem rQuiet_any (v : Value) (l : List (Int × Int)) (m : Int) (w : World) (h : WinsAt w v l) : Calls Try.prog 15 #[v, .int .i64 m] w fun e w' => e = .returned (.bool (qui l m)) ∧ Below w.heap.size w w' := by
  cases hv : okL l
  · have HV := Lib.hid hv
    have HR := Lib.hid (show qui l m = false by unfold qui; rw [hv]; rfl)
    clear hv
    go_enter Try.func15, Try.ntmps15
    go_wp2_with fail
    refine (rvalid_q v l _ h _ HV.out).mono ?_
    rintro e w1 ⟨rfl, b1⟩
    have HB1 := Lib.hid b1
    clear b1
    go_wp2
    go_ret
    exact ⟨ret_bool (a := false) (by rw [HR.out]), HB1.out⟩
  · have HV := Lib.hid hv
    cases hi : inR m
    · have HI := Lib.hid hi
      have HR := Lib.hid (show qui l m = false by unfold qui; rw [hv, hi]; rfl)
      clear hv hi
      go_enter Try.func15, Try.ntmps15
      go_wp2_with fail
      refine (rvalid_q v l _ h _ HV.out).mono ?_
      rintro e w1 ⟨rfl, b1⟩
      have HB1 := Lib.hid b1
      clear b1
      go_wp2_with fail
      refine (rinR_q m _ HI.out _).mono ?_
      rintro e w' ⟨rfl, rfl⟩
      go_wp2
      go_ret
      exact ⟨ret_bool (a := false) (by rw [HR.out]), HB1.out⟩
    · have HI := Lib.hid hi
      have HR := Lib.hid (show qui l m = Qm l m by unfold qui; rw [hv, hi]; rfl)
      have HM := Lib.hid (inR_iff.1 hi)
      clear hv hi
      have HL := Lib.hid h
      obtain ⟨a, cap, rfl, hcp, hm, hc⟩ := h
      unfold maxLen at hm
      clear hc hcp
      go_enter Try.func15, Try.ntmps15
      go_wp2_with fail
      refine (rvalid_q _ l _ HL.out _ HV.out).mono ?_
      rintro e w1 ⟨rfl, b1⟩
      have HL1 := Lib.hid (HL.out.step b1)
      have HB1 := Lib.hid b1
      clear b1 HL
      go_wp2_with fail
      refine (rinR_q m _ HI.out _).mono ?_
      rintro e w' ⟨rfl, rfl⟩
      go_wp2_with fail
      go_loopw [5] (fun i wr => ∃ k : Nat, k ≤ l.length ∧ i = .int .i64 k ∧ Hid (∀ j, j < k → cov (l.getD j (0, 0)).1 (l.getD j (0, 0)).2 (m % 1440) = false) ∧ Hid (Below w1.heap.size w1 wr)) (fun i _ => l.length - (intOf i).toNat)
      case atStart => exact ⟨0, by omega, rfl, fun j h => absurd h (by omega), Below.refl _ _⟩
      case round =>
        obtain ⟨k, hk, rfl, HN, HB⟩ := hrel
        by_cases hlt : k < l.length
        · obtain ⟨a2, cap2, hva, -, -, hcs⟩ := HL1.out.step HB.out
          obtain ⟨rfl, rfl⟩ : a = a2 ∧ cap = cap2 := by simpa using hva
          obtain ⟨b, off, rfl, hcs2⟩ := hcs (by intro h; rw [h] at hlt; simp at hlt)
          obtain ⟨x0, x1⟩ := hcs2 k _ (win_get (d := (0, 0)) hlt)
          clear hcs hcs2 hva
          have xb : b < wr.heap.size := World.block_lt_of_cell? _ _ x0
          cases hcv : cov (l.getD k (0, 0)).1 (l.getD k (0, 0)).2 (m % 1440)
          · have HC := Lib.hid hcv
            have HN2 := Lib.hid (show ∀ j, j < k + 1 → cov (l.getD j (0, 0)).1 (l.getD j (0, 0)).2 (m % 1440) = false from fun j h => by
              by_cases hjk : j = k
              · rw [hjk]; exact hcv
              · exact HN.out j (by omega))
            clear hcv
            generalize (l.getD k (0, 0)).1 = f at *
            generalize (l.getD k (0, 0)).2 = t at *
            go_wp2_with fail
            refine (covers_q f t m _ HC.out _ (by have := HM.out; omega) (by have := HM.out; omega)).mono ?_
            rintro e w2 ⟨rfl, b1⟩
            have HB2 := Lib.hid (keep2 b1 HB.out)
            clear b1 x0 x1 xb
            go_wp2
            go_roundw
            case rel => exact ⟨k + 1, hlt, by go_num, HN2, HB2⟩
            case measure => simp [intOf]; omega
          · have HC := Lib.hid hcv
            have HQ := Lib.hid (show Qm l m = true from qx_hit hlt hcv)
            clear hcv
            generalize (l.getD k (0, 0)).1 = f at *
            generalize (l.getD k (0, 0)).2 = t at *
            go_wp2_with fail
            refine (covers_q f t m _ HC.out _ (by have := HM.out; omega) (by have := HM.out; omega)).mono ?_
            rintro e w2 ⟨rfl, b1⟩
            have HB2 := Lib.hid (keep2 (keep2 b1 HB.out) HB1.out)
            clear b1 x0 x1 xb
            go_wp2
            go_ret
            exact ⟨ret_bool (a := true) (by rw [HR.out, HQ.out]), HB2.out⟩
        · obtain rfl : k = l.length := by omega
          have HQ := Lib.hid (show Qm l m = false from qx_none HN.out)
          go_wp2
          go_ret
          exact ⟨ret_bool (a := false) (by rw [HR.out, HQ.out]), keep2 HB.out HB1.out⟩
end Go.Proofs.Ytmejpmnipejpiaa
