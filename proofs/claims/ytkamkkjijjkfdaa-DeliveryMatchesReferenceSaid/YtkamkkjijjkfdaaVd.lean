/- The window: 'isWindow', once a number was accepted. -/
import Derived.Test.YtkamkkjijjkfdaaVc
namespace Go.Proofs.Ytkamkkjijjkfdaa
open Go.RowKit

/-- What the window says. -/
def wkB (t : Nat) (l : List Bool) : Bool := l.getD 0 false && !(l.drop (min (t + 1) 16)).any (fun x => x == true)
set_option maxRecDepth 100000 in
set_option maxHeartbeats 4000000 in
theorem isw_old (t : Nat) (aa : Option Addr) (c : Nat) (l : List Bool) (w : World) (h : BosAt w (.slice aa 16 (c + 16)) l) (hl : l.length = 16) (ht : t ≤ 1000000) :
    Calls Try.prog 55 #[.agg #[.int .i64 t, .slice aa 16 (c + 16)]] w fun e w' => e = .returned (.bool (wkB t l)) ∧ Below w.heap.size w w' := by
  have HL0 := Lib.hid h
  obtain ⟨a, cap, he, hm, hc⟩ := h
  obtain ⟨rfl, -, rfl⟩ : aa = a ∧ 16 = l.length ∧ c + 16 = cap := by simpa using he
  obtain ⟨b, off, rfl, hx⟩ := hc (by intro e; rw [e] at hl; simp at hl)
  clear he
  have HC := Lib.hid (Cs.new w w.heap.size #[.int .i64 t, .slice (some ⟨b, off, none⟩) 16 (c + 16)] 27 rfl)
  have HB := Lib.hid (al w (.cells #[.int .i64 t, .slice (some ⟨b, off, none⟩) 16 (c + 16)] 27))
  have HL := Lib.hid (HL0.out.step HB.out)
  have x0 := keep1 HB.out (show w.cell? ⟨b, off, none⟩ = some (.bool (l.getD 0 false)) from hx 0 _ (bo_get (by omega)))
  have HQ := Lib.hid hl
  clear hx hc hm HL0
  clear hl
  have d1 : decide ((t : Int) < -1) = false := by simp
  have d2 : decide (1000000 < (t : Int)) = false := by simp; omega
  have d3 : ((t : Int) == -1) = false := by simp
  have HT := Lib.hid ht
  clear ht
  obtain ⟨q, hq⟩ : ∃ q, (l.drop (min (t + 1) 16)).any (fun x => x == true) = q := ⟨_, rfl⟩
  have HQ2 := Lib.hid hq
  clear hq
  cases h0 : l.getD 0 false
  · have HR := Lib.hid (show wkB t l = false by unfold wkB; rw [h0]; rfl)
    rw [h0] at x0
    go_enter Try.func55, Try.ntmps55
    go_wp2
    go_ret
    exact ⟨ret_bool HR.out.symm, HB.out⟩
  · have HR := Lib.hid (show wkB t l = !q by unfold wkB; rw [h0, HQ2.out]; rfl)
    rw [h0] at x0
    have hw : wrap64 ((t : Int) + 1) = ((t + 1 : Nat) : Int) := by rw [IntWalk.wrap64_in _ (by have := HT.out; omega)]; rfl
    have hn : (((t + 1 : Nat) : Int)).toNat = t + 1 := Int.toNat_natCast _
    by_cases h1 : t + 1 < 16
    · have hz : ¬ (c + 16 - (t + 1) = 0) := by omega
      have hz2 : ¬ (c + 16 = t + 1) := by omega
      have H1 := Lib.hid h1
      have HD := Lib.hid (show BosAt (w.alloc (.cells #[.int .i64 t, .slice (some ⟨b, off, none⟩) 16 (c + 16)] 27)) (.slice (some ⟨b, off + (t + 1), none⟩) (15 - t) (c + 15 - t)) (l.drop (t + 1)) from by
        have h := bos_cut HL.out (k := t + 1) (by have := HQ.out; omega) _ (fun _ => rfl) (c + 15 - t)
        rwa [show l.length - (t + 1) = 15 - t by have := HQ.out; omega] at h)
      have HM := Lib.hid (show min (t + 1) 16 = t + 1 by omega)
      rw [HM.out] at HQ2
      go_enter Try.func55, Try.ntmps55
      go_wp2_with fail
      refine (bcontains_any _ _ true _ HD.out).mono ?_
      rintro e w' ⟨rfl, b1⟩
      rw [HQ2.out]
      have HB2 := Lib.hid (keep2 b1 HB.out)
      clear b1
      go_wp2
      go_ret
      exact ⟨ret_bool HR.out.symm, HB2.out⟩
    · by_cases h2 : t = 15
      · subst h2
        rw [show ((15 : Nat) : Int) = 15 from rfl] at HC HB HL x0 ⊢
        clear h1 hw hn d1 d2 d3
        have HM := Lib.hid (show min (15 + 1) 16 = 16 by omega)
        rw [HM.out] at HQ2
        by_cases hc : c = 0
        · subst hc
          rw [Nat.zero_add] at HC HB HL x0 ⊢
          have HD := Lib.hid (show BosAt (w.alloc (.cells #[.int .i64 15, .slice (some ⟨b, off, none⟩) 16 16] 27)) (.slice (some ⟨b, off, none⟩) 0 0) (l.drop 16) from by
            have h := bos_cut HL.out (k := 16) (by have := HQ.out; omega) (some ⟨b, off, none⟩) (fun h => absurd h (by have := HQ.out; omega)) 0
            rwa [show l.length - 16 = 0 by have := HQ.out; omega] at h)
          go_enter Try.func55, Try.ntmps55
          go_wp2_with fail
          refine (bcontains_any _ _ true _ HD.out).mono ?_
          rintro e w' ⟨rfl, b1⟩
          rw [HQ2.out]
          have HB2 := Lib.hid (keep2 b1 HB.out)
          clear b1
          go_wp2
          go_ret
          exact ⟨ret_bool HR.out.symm, HB2.out⟩
        · have hz : ¬ (c + 16 - 16 = 0) := by omega
          have HD := Lib.hid (show BosAt (w.alloc (.cells #[.int .i64 15, .slice (some ⟨b, off, none⟩) 16 (c + 16)] 27)) (.slice (some ⟨b, off + 16, none⟩) 0 c) (l.drop 16) from by
            have h := bos_cut HL.out (k := 16) (by have := HQ.out; omega) (some ⟨b, off + 16, none⟩) (fun _ => rfl) c
            rwa [show l.length - 16 = 0 by have := HQ.out; omega] at h)
          go_enter Try.func55, Try.ntmps55
          go_wp2_with fail
          refine (bcontains_any _ _ true _ HD.out).mono ?_
          rintro e w' ⟨rfl, b1⟩
          rw [HQ2.out]
          have HB2 := Lib.hid (keep2 b1 HB.out)
          clear b1
          go_wp2
          go_ret
          exact ⟨ret_bool HR.out.symm, HB2.out⟩
      · have hmn : ¬ (((t + 1 : Nat) : Int) ≤ 16) := by omega
        have H1 := Lib.hid h1
        have H2 := Lib.hid h2
        clear h1 h2
        have HM := Lib.hid (show min (t + 1) 16 = 16 by have := H1.out; omega)
        rw [HM.out] at HQ2
        by_cases hc : c = 0
        · subst hc
          rw [Nat.zero_add] at HC HB HL x0 ⊢
          have HD := Lib.hid (show BosAt (w.alloc (.cells #[.int .i64 t, .slice (some ⟨b, off, none⟩) 16 16] 27)) (.slice (some ⟨b, off, none⟩) 0 0) (l.drop 16) from by
            have h := bos_cut HL.out (k := 16) (by have := HQ.out; omega) (some ⟨b, off, none⟩) (fun h => absurd h (by have := HQ.out; omega)) 0
            rwa [show l.length - 16 = 0 by have := HQ.out; omega] at h)
          go_enter Try.func55, Try.ntmps55
          go_wp2_with fail
          refine (bcontains_any _ _ true _ HD.out).mono ?_
          rintro e w' ⟨rfl, b1⟩
          rw [HQ2.out]
          have HB2 := Lib.hid (keep2 b1 HB.out)
          clear b1
          go_wp2
          go_ret
          exact ⟨ret_bool HR.out.symm, HB2.out⟩
        · have hz : ¬ (c + 16 - 16 = 0) := by omega
          have HD := Lib.hid (show BosAt (w.alloc (.cells #[.int .i64 t, .slice (some ⟨b, off, none⟩) 16 (c + 16)] 27)) (.slice (some ⟨b, off + 16, none⟩) 0 c) (l.drop 16) from by
            have h := bos_cut HL.out (k := 16) (by have := HQ.out; omega) (some ⟨b, off + 16, none⟩) (fun _ => rfl) c
            rwa [show l.length - 16 = 0 by have := HQ.out; omega] at h)
          go_enter Try.func55, Try.ntmps55
          go_wp2_with fail
          refine (bcontains_any _ _ true _ HD.out).mono ?_
          rintro e w' ⟨rfl, b1⟩
          rw [HQ2.out]
          have HB2 := Lib.hid (keep2 b1 HB.out)
          clear b1
          go_wp2
          go_ret
          exact ⟨ret_bool HR.out.symm, HB2.out⟩
end Go.Proofs.Ytkamkkjijjkfdaa
