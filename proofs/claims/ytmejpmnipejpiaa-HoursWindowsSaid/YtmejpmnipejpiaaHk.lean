/- Quiet hours: the reference's 'Next' and 'Changes'; lists of changes compared. -/
import Derived.Test.YtmejpmnipejpiaaHj
namespace Go.Proofs.Ytmejpmnipejpiaa
open Go.RowKit

theorem rquiet_q (v : Value) (l : List (Int × Int)) (m : Int) (b : Bool) (hb : Qm l m = b) (w : World) (h : WinsAt w v l) (hm1 : -2000000000 ≤ m) (hm2 : m ≤ 2000000000) : Calls Try.prog 25 #[v, .int .i64 m] w fun e w' => e = .returned (.bool b) ∧ Below w.heap.size w w' := by
  rw [← hb]; exact rquiet_any v l m w h hm1 hm2
theorem ret_nx {p : Int × Bool} {x : Int} {b : Bool} (h : p = (x, b)) : Ending.returned (.tuple #[.int .i64 x, .bool b]) = .returned (.tuple #[.int .i64 p.1, .bool p.2]) := by rw [h]
theorem nxV_is {l : List (Int × Int)} {m : Int} (h1 : okL l = true) (h2 : inR m = true) {i : Nat} (hi : i < 1440) (hc : chg (Qm l) m i = true) (hb : ∀ j, j < i → chg (Qm l) m j = false) : nxV l m = ((i : Int) + 1, true) := by
  unfold nxV
  rw [h1, h2, nxt_mk hc hb hi]
  rfl
theorem nxV_no {l : List (Int × Int)} {m : Int} (h1 : okL l = true) (h2 : inR m = true) (hb : ∀ j, j < 1440 → chg (Qm l) m j = false) : nxV l m = (0, false) := by
  unfold nxV
  rw [h1, h2, nxt_mk_none hb]
  rfl
set_option maxRecDepth 100000 in
set_option maxHeartbeats 4000000 in
theorem rnext_no (v : Value) (l : List (Int × Int)) (m : Int) (w : World) (h : WinsAt w v l) (hb : (okL l && inR m) = false) : Calls Try.prog 11 #[v, .int .i64 m] w (NxP l m w) := by
  have HR := Lib.hid (show nxV l m = (0, false) by unfold nxV; rw [hb]; rfl)
  cases hv : okL l
  · have HV := Lib.hid hv
    clear hv hb
    go_enter Try.func11, Try.ntmps11
    go_wp2_with fail
    refine (rvalid_q v l _ h _ HV.out).mono ?_
    rintro e w1 ⟨rfl, b1⟩
    have HB1 := Lib.hid b1
    clear b1
    go_wp2
    go_ret2
    exact ⟨ret_nx HR.out, HB1.out⟩
  · rw [hv, Bool.true_and] at hb
    have HV := Lib.hid hv
    have HI := Lib.hid hb
    clear hv hb
    go_enter Try.func11, Try.ntmps11
    go_wp2_with fail
    refine (rvalid_q v l _ h _ HV.out).mono ?_
    rintro e w1 ⟨rfl, b1⟩
    have HB1 := Lib.hid b1
    clear b1
    go_wp2_with fail
    refine (rinR_q m _ HI.out _).mono ?_
    rintro e w' ⟨rfl, rfl⟩
    go_wp2
    go_ret2
    exact ⟨ret_nx HR.out, HB1.out⟩
set_option maxRecDepth 100000 in
set_option maxHeartbeats 4000000 in
theorem rnext_yes (v : Value) (l : List (Int × Int)) (m : Int) (w : World) (h : WinsAt w v l) (hv : okL l = true) (hi : inR m = true) : Calls Try.prog 11 #[v, .int .i64 m] w (NxP l m w) := by
  have HV := Lib.hid hv
  have HI := Lib.hid hi
  have HM := Lib.hid (inR_iff.1 hi)
  have hm := HM.out
  have HL := Lib.hid h
  clear hv hi h
  go_enter Try.func11, Try.ntmps11
  go_wp2_with fail
  refine (rvalid_q v l _ HL.out _ HV.out).mono ?_
  rintro e w1 ⟨rfl, b1⟩
  have HL1 := Lib.hid (HL.out.step b1)
  have HB1 := Lib.hid b1
  clear b1 HL
  go_wp2_with fail
  refine (rinR_q m _ HI.out _).mono ?_
  rintro e w' ⟨rfl, rfl⟩
  go_wp2_with fail
  go_loopw [6] (fun i wr => ∃ k : Nat, k ≤ 1440 ∧ i = .int .i64 ((k : Int) + 1) ∧ Hid (∀ j, j < k → chg (Qm l) m j = false) ∧ Hid (Below w1.heap.size w1 wr)) (fun i _ => 1441 - (intOf i).toNat)
  case atStart => exact ⟨0, by omega, rfl, fun j h => absurd h (by omega), Below.refl _ _⟩
  case round =>
    obtain ⟨k, hk, rfl, HN, HB⟩ := hrel
    by_cases hlt : k < 1440
    · have HL2 := Lib.hid (HL1.out.step HB.out)
      have HCH := Lib.hid (show chg (Qm l) m k = !(Qm l (m + ((k : Int) + 1)) == Qm l (m + ((k : Int) + 1) - 1)) by unfold chg; rw [show m + ((k : Int) + 1) - 1 = m + k by omega, show m + ((k : Int) + 1) = m + k + 1 by omega])
      obtain ⟨nw, hnw⟩ : ∃ z, Qm l (m + ((k : Int) + 1)) = z := ⟨_, rfl⟩
      obtain ⟨bf, hbf⟩ : ∃ z, Qm l (m + ((k : Int) + 1) - 1) = z := ⟨_, rfl⟩
      rw [hnw, hbf] at HCH
      have HNW := Lib.hid hnw
      have HBF := Lib.hid hbf
      clear hnw hbf
      have hlt2 : ((k : Int) + 1 ≤ 1440) := by omega
      by_cases hc : nw = bf
      · have HN2 := Lib.hid (show ∀ j, j < k + 1 → chg (Qm l) m j = false from fun j h => by
          by_cases hjk : j = k
          · rw [hjk, HCH.out, hc]; simp
          · exact HN.out j (by omega))
        subst hc
        clear HCH
        cases nw
        all_goals
          go_wp2_with fail
          refine (rquiet_q v l (m + ((k : Int) + 1)) _ HNW.out _ HL2.out (by omega) (by omega)).mono ?_
          rintro e w2 ⟨rfl, b2⟩
          have HL3 := Lib.hid (HL2.out.step b2)
          have HB2 := Lib.hid (keep2 b2 HB.out)
          clear b2
          go_wp2_with fail
          refine (rquiet_q v l (m + ((k : Int) + 1) - 1) _ HBF.out _ HL3.out (by omega) (by omega)).mono ?_
          rintro e w3 ⟨rfl, b3⟩
          have HB3 := Lib.hid (keep2 b3 HB2.out)
          clear b3
          go_wp2
          go_roundw
          case rel => exact ⟨k + 1, hlt, by go_num, HN2, HB3⟩
          case measure => simp [intOf]; omega
      · have HQ := Lib.hid (show nxV l m = ((k : Int) + 1, true) from nxV_is HV.out HI.out hlt (by rw [HCH.out]; simp [hc]) HN.out)
        clear HCH
        cases nw <;> cases bf
        any_goals (exfalso; exact hc rfl)
        all_goals
          clear hc
          go_wp2_with fail
          refine (rquiet_q v l (m + ((k : Int) + 1)) _ HNW.out _ HL2.out (by omega) (by omega)).mono ?_
          rintro e w2 ⟨rfl, b2⟩
          have HL3 := Lib.hid (HL2.out.step b2)
          have HB2 := Lib.hid (keep2 b2 HB.out)
          clear b2
          go_wp2_with fail
          refine (rquiet_q v l (m + ((k : Int) + 1) - 1) _ HBF.out _ HL3.out (by omega) (by omega)).mono ?_
          rintro e w3 ⟨rfl, b3⟩
          have HB3 := Lib.hid (keep2 (keep2 b3 HB2.out) HB1.out)
          clear b3
          go_wp2
          go_ret2
          exact ⟨ret_nx HQ.out, HB3.out⟩
    · obtain rfl : k = 1440 := by omega
      have HQ := Lib.hid (nxV_no HV.out HI.out HN.out)
      go_wp2
      go_ret2
      exact ⟨ret_nx HQ.out, keep2 HB.out HB1.out⟩
theorem rnext_any (v : Value) (l : List (Int × Int)) (m : Int) (w : World) (h : WinsAt w v l) : Calls Try.prog 11 #[v, .int .i64 m] w (NxP l m w) := by
  cases hb : (okL l && inR m)
  · exact rnext_no v l m w h hb
  · rw [Bool.and_eq_true] at hb
    exact rnext_yes v l m w h hb.1 hb.2
end Go.Proofs.Ytmejpmnipejpiaa
