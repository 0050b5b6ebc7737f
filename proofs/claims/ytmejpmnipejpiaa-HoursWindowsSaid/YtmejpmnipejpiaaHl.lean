/- Quiet hours: the reference's 'Changes'; lists of changes compared. -/
import Derived.Test.YtmejpmnipejpiaaHk
import Derived.Deep.AppendLies
namespace Go.Proofs.Ytmejpmnipejpiaa
open Go.RowKit

theorem row_step {w w1 : World} {base e s : Nat} {v : Value} {n : Nat} {xs : List Value} (h : w.ownsRow base e s v n xs) (hb : Below w.heap.size w w1) : w1.ownsRow base e s v n xs := by
  refine ⟨h.1, ?_⟩
  rcases h.2 with h0 | ⟨g, cap, cur, h1, h2, h3, h4⟩
  · exact .inl h0
  · exact .inr ⟨g, cap, cur, h1, h2, (hb.block g (Array.getElem?_eq_some_iff.1 h3).1).trans h3, h4⟩
theorem row_own {w : World} {base e s : Nat} {v : Value} {n k : Nat} {xs : List Value} (h : w.ownsRow base e s v n xs) (hk : v.ownBlock = some k) : base ≤ k := by
  rcases h.2 with ⟨h1, -⟩ | ⟨g, cap, cur, h1, h2, -⟩
  · rw [h1] at hk; cases hk
  · rw [h1] at hk; cases hk; exact h2
/-- A list of changes in a block of one's own. -/
def RowC (n0 : Nat) (v : Value) (l : List (Int × Bool)) (w : World) : Prop := w.ownsRow n0 37 2 v l.length (ccs l)
theorem RowC.step {n0 : Nat} {v : Value} {l : List (Int × Bool)} {w w' : World} (h : RowC n0 v l w) (hb : Below w.heap.size w w') : RowC n0 v l w' := row_step h hb
theorem RowC.at {n0 : Nat} {v : Value} {l : List (Int × Bool)} {w : World} (h : RowC n0 v l w) : ChsAt w v l := chs_of_row h
theorem RowC.nil (n0 : Nat) (w : World) : RowC n0 (.slice none 0 0) [] w := World.ownsRow_nil _ _ _ _
def cgr (l : List (Int × Int)) (f t : Int) : Bool := okL l && inR f && inR t && decide (t ≤ f + 14400)
theorem cgV_no {l : List (Int × Int)} {f t : Int} (h : cgr l f t = false) : cgV l f t = [] := by
  have : cgB l f t = false := by
    unfold cgr at h
    unfold cgB
    revert h
    cases okL l <;> cases inR f <;> cases inR t <;> cases decide (f < t) <;> cases decide (t ≤ f + 14400) <;> simp
  unfold cgV
  rw [this]; rfl
theorem cgV_yes {l : List (Int × Int)} {f t : Int} (h : cgr l f t = true) : cgV l f t = chs (Qm l) f (t - f).toNat := by
  unfold cgV
  by_cases hd : f < t
  · have : cgB l f t = true := by
      unfold cgr at h
      unfold cgB
      revert h
      rw [decide_eq_true hd]
      cases okL l <;> cases inR f <;> cases inR t <;> cases decide (t ≤ f + 14400) <;> simp
    rw [this]; rfl
  · have : cgB l f t = false := by unfold cgB; rw [decide_eq_false hd]; simp
    rw [this, show (t - f).toNat = 0 by omega]; rfl
set_option maxRecDepth 100000 in
set_option maxHeartbeats 4000000 in
theorem rcg_no (v : Value) (l : List (Int × Int)) (f t : Int) (w : World) (h : WinsAt w v l) (hc : cgr l f t = false) : Calls Try.prog 18 #[v, .int .i64 f, .int .i64 t] w (CgP l f t w) := by
  have HR := Lib.hid (cgV_no hc)
  cases hv : okL l
  · have HV := Lib.hid hv
    clear hv hc
    go_enter Try.func18, Try.ntmps18
    go_wp2_with fail
    refine (rvalid_q v l _ h _ HV.out).mono ?_
    rintro e w1 ⟨rfl, b1⟩
    have HB := Lib.hid b1
    clear b1
    go_wp2
    go_ret
    exact ⟨_, rfl, by rw [HR.out]; exact chs_nil _, HB.out⟩
  · cases hf : inR f
    · have HV := Lib.hid hv
      have HF := Lib.hid hf
      clear hv hc hf
      go_enter Try.func18, Try.ntmps18
      go_wp2_with fail
      refine (rvalid_q v l _ h _ HV.out).mono ?_
      rintro e w1 ⟨rfl, b1⟩
      have HB := Lib.hid b1
      clear b1
      go_wp2_with fail
      refine (rinR_q f _ HF.out _).mono ?_
      rintro e w' ⟨rfl, rfl⟩
      go_wp2
      go_ret
      exact ⟨_, rfl, by rw [HR.out]; exact chs_nil _, HB.out⟩
    · cases ht : inR t
      · have HV := Lib.hid hv
        have HF := Lib.hid hf
        have HT := Lib.hid ht
        clear hv hc hf ht
        go_enter Try.func18, Try.ntmps18
        go_wp2_with fail
        refine (rvalid_q v l _ h _ HV.out).mono ?_
        rintro e w1 ⟨rfl, b1⟩
        have HB := Lib.hid b1
        clear b1
        go_wp2_with fail
        refine (rinR_q f _ HF.out _).mono ?_
        rintro e w' ⟨rfl, rfl⟩
        go_wp2_with fail
        refine (rinR_q t _ HT.out _).mono ?_
        rintro e w' ⟨rfl, rfl⟩
        go_wp2
        go_ret
        exact ⟨_, rfl, by rw [HR.out]; exact chs_nil _, HB.out⟩
      · have hM := inR_iff.1 hf
        have he : f + 14400 < t := by
          unfold cgr at hc
          rw [hv, hf, ht] at hc
          simp at hc
          omega
        have he3 : decide (f + 14400 < t) = true := by simp; omega
        have HV := Lib.hid hv
        have HF := Lib.hid hf
        have HT := Lib.hid ht
        clear hv hc hf ht
        go_enter Try.func18, Try.ntmps18
        go_wp2_with fail
        refine (rvalid_q v l _ h _ HV.out).mono ?_
        rintro e w1 ⟨rfl, b1⟩
        have HB := Lib.hid b1
        clear b1
        go_wp2_with fail
        refine (rinR_q f _ HF.out _).mono ?_
        rintro e w' ⟨rfl, rfl⟩
        go_wp2_with fail
        refine (rinR_q t _ HT.out _).mono ?_
        rintro e w' ⟨rfl, rfl⟩
        go_wp2
        go_ret
        exact ⟨_, rfl, by rw [HR.out]; exact chs_nil _, HB.out⟩
set_option maxRecDepth 100000 in
set_option maxHeartbeats 4000000 in
theorem rcg_yes (v : Value) (l : List (Int × Int)) (f t : Int) (w : World) (h : WinsAt w v l) (hc : cgr l f t = true) : Calls Try.prog 18 #[v, .int .i64 f, .int .i64 t] w (CgP l f t w) := by
  have HR := Lib.hid (cgV_yes hc)
  obtain ⟨i0, hi, hz0, hz1, hz2⟩ := info_parts info37
  have HI := Lib.hid (show _ ∧ _ ∧ _ ∧ _ from ⟨hi, hz0, hz1, hz2⟩)
  clear hi hz0 hz1 hz2
  unfold cgr at hc
  rw [Bool.and_eq_true, Bool.and_eq_true, Bool.and_eq_true, decide_eq_true_iff] at hc
  obtain ⟨⟨⟨hv, hf⟩, ht⟩, he⟩ := hc
  have hM := inR_iff.1 hf
  have hM2 := inR_iff.1 ht
  obtain ⟨n, hn⟩ : ∃ n : Nat, (t - f).toNat = n := ⟨_, rfl⟩
  rw [hn] at HR
  have HN := Lib.hid (show n ≤ 14400 ∧ ∀ k : Nat, (f + 1 + k ≤ t ↔ k < n) from ⟨by omega, fun k => by omega⟩)
  clear hn
  have he3 : decide (f + 14400 < t) = false := by simp; omega
  have he4 : ¬ f + 14400 < t := by omega
  have HV := Lib.hid hv
  have HF := Lib.hid hf
  have HT := Lib.hid ht
  have HL := Lib.hid h
  clear hv hf ht h
  go_enter Try.func18, Try.ntmps18
  go_wp2_with fail
  refine (rvalid_q v l _ HL.out _ HV.out).mono ?_
  rintro e w1 ⟨rfl, b1⟩
  have HL1 := Lib.hid (HL.out.step b1)
  have HB1 := Lib.hid b1
  clear b1 HL
  go_wp2_with fail
  refine (rinR_q f _ HF.out _).mono ?_
  rintro e w' ⟨rfl, rfl⟩
  go_wp2_with fail
  refine (rinR_q t _ HT.out _).mono ?_
  rintro e w' ⟨rfl, rfl⟩
  go_wp2_with fail
  clear he3 he4
  go_loopw [7, 8] (fun u i wr => ∃ k : Nat, k ≤ n ∧ i = .int .i64 (f + 1 + (k : Int)) ∧ Hid (RowC w1.heap.size u (chs (Qm l) f k) wr) ∧ Hid (Below w1.heap.size w1 wr)) (fun _ i _ => (f + 20000 - intOf i).toNat)
  case atStart => exact ⟨0, by omega, by simp, Lib.hid (RowC.nil _ _), Below.refl _ _⟩
  case round =>
    obtain ⟨k, hk, rfl, HU, HB⟩ := hrel
    have hnn := HN.out.1
    by_cases hlt : k < n
    · have hlt2 : f + 1 + (k : Int) ≤ t := (HN.out.2 k).2 hlt
      have HL2 := Lib.hid (HL1.out.step HB.out)
      have HCH := Lib.hid (show chg (Qm l) f k = !(Qm l (f + 1 + (k : Int)) == Qm l (f + 1 + (k : Int) - 1)) by unfold chg; rw [show f + 1 + (k : Int) - 1 = f + k by omega, show f + 1 + (k : Int) = f + k + 1 by omega])
      have HX := Lib.hid (show f + (k : Int) + 1 = f + 1 + (k : Int) by omega)
      obtain ⟨nw, hnw⟩ : ∃ z, Qm l (f + 1 + (k : Int)) = z := ⟨_, rfl⟩
      obtain ⟨bf, hbf⟩ : ∃ z, Qm l (f + 1 + (k : Int) - 1) = z := ⟨_, rfl⟩
      rw [hnw, hbf] at HCH
      have HNW := Lib.hid hnw
      have HBF := Lib.hid hbf
      clear hnw hbf
      obtain ⟨ua, uc, rfl⟩ := row_slice HU.out
      by_cases hc : nw = bf
      · have HC := Lib.hid (show chg (Qm l) f k = false by rw [HCH.out, hc]; simp)
        have HU2 := Lib.hid (show RowC w1.heap.size (.slice ua (chs (Qm l) f k).length uc) (chs (Qm l) f (k + 1)) wr by rw [chs_no HC.out]; exact HU.out)
        subst hc
        clear HCH HC
        cases nw
        all_goals
          go_wp2_with fail
          refine (rquiet_q v l (f + 1 + (k : Int)) _ HNW.out _ HL2.out (by omega) (by omega)).mono ?_
          rintro e w2 ⟨rfl, b2⟩
          have HL3 := Lib.hid (HL2.out.step b2)
          have HU3 := Lib.hid (HU2.out.step b2)
          have HB2 := Lib.hid (keep2 b2 HB.out)
          clear b2
          go_wp2_with fail
          refine (rquiet_q v l (f + 1 + (k : Int) - 1) _ HBF.out _ HL3.out (by omega) (by omega)).mono ?_
          rintro e w3 ⟨rfl, b3⟩
          have HU4 := Lib.hid (HU3.out.step b3)
          have HB3 := Lib.hid (keep2 b3 HB2.out)
          clear b3
          go_wp2
          go_roundw
          case rel => exact ⟨k + 1, hlt, by go_num, HU4, HB3⟩
          case measure => simp [intOf]; omega
      · have HC := Lib.hid (show chg (Qm l) f k = true by rw [HCH.out]; simp [hc])
        have HS := Lib.hid (show chs (Qm l) f (k + 1) = chs (Qm l) f k ++ [(f + 1 + (k : Int), nw)] by rw [chs_yes HC.out, HX.out, HNW.out])
        have hcl := chs_len (Qm l) f k
        clear HCH HC
        cases nw <;> cases bf
        any_goals (exfalso; exact hc rfl)
        all_goals
          clear hc
          go_wp2_with fail
          refine (rquiet_q v l (f + 1 + (k : Int)) _ HNW.out _ HL2.out (by omega) (by omega)).mono ?_
          rintro e w2 ⟨rfl, b2⟩
          have HL3 := Lib.hid (HL2.out.step b2)
          have HU3 := Lib.hid (HU.out.step b2)
          have HB2 := Lib.hid (keep2 b2 HB.out)
          clear b2
          go_wp2_with fail
          refine (rquiet_q v l (f + 1 + (k : Int) - 1) _ HBF.out _ HL3.out (by omega) (by omega)).mono ?_
          rintro e w3 ⟨rfl, b3⟩
          have HL4 := Lib.hid (HL3.out.step b3)
          have HU4 := Lib.hid (HU3.out.step b3)
          have HB3 := Lib.hid (keep2 b3 HB2.out)
          clear b3
          go_wp2_with fail
          refine (rquiet_q v l (f + 1 + (k : Int)) _ HNW.out _ HL4.out (by omega) (by omega)).mono ?_
          rintro e w4 ⟨rfl, b4⟩
          have HU5 := Lib.hid (HU4.out.step b4)
          have HB4 := Lib.hid (keep2 b4 HB3.out)
          have HZ := Lib.hid (show w1.heap.size ≤ w4.heap.size from HB4.out.size)
          clear b4
          obtain ⟨hi, hz0, hz1, hz2⟩ := HI.out
          generalize chs (Qm l) f k = L at *
          go_wp2_with (at_builtin; refine wpList_append_own _ rfl _ _ 29 rfl w1.heap.size 37 i0 _ 2 16 Try.underlying29 hi hz0 hz1 hz2 rfl (by decide) _ _ _ rfl (HU5.out.step (al _ _)) ⟨w4.heap.size, 0, none⟩ 1 1 [.int .i64 (f + 1 + (k : Int)), .bool _] rfl rfl (cell_two_at _ _ _ _) (by simp [Value.oneCell']) (by unfold maxLen; omega) (by omega) (by have := HZ.out; simp; omega) ?_; intro v' w5 hown' hgrow hnil; have HO := Lib.hid hown'; have HG := Lib.hid hgrow; obtain ⟨g', cap', rfl⟩ := ownsRow_succ hown'; clear hown' hgrow hnil)
          have HB5 := Lib.hid ((HB4.out.alloc HB4.out.size _).grown HG.out (by have := HZ.out; simp; omega) (fun q e => row_own HU5.out e))
          go_roundw
          case rel => exact ⟨k + 1, hlt, by go_num, Lib.hid (show RowC _ _ _ _ by rw [HS.out]; unfold RowC; rw [ccs_snoc, List.length_append]; exact HO.out), HB5⟩
          case measure => simp [intOf]; omega
    · obtain rfl : k = n := by omega
      have hlt2 : ¬ f + 1 + (k : Int) ≤ t := fun h => hlt ((HN.out.2 k).1 h)
      obtain ⟨ua, uc, rfl⟩ := row_slice HU.out
      go_wp2
      go_ret
      exact ⟨_, rfl, by rw [HR.out]; exact HU.out.at, keep2 HB.out HB1.out⟩
theorem rcg_any (v : Value) (l : List (Int × Int)) (f t : Int) (w : World) (h : WinsAt w v l) : Calls Try.prog 18 #[v, .int .i64 f, .int .i64 t] w (CgP l f t w) := by
  cases hc : cgr l f t
  · exact rcg_no v l f t w h hc
  · exact rcg_yes v l f t w h hc
end Go.Proofs.Ytmejpmnipejpiaa
