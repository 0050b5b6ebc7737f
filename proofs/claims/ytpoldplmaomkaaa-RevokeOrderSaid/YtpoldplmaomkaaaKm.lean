/- Capabilities: the reference's 'Cap' and 'one'. -/
import Derived.Test.YtpoldplmaomkaaaKl
namespace Go.Proofs.Ytpoldplmaomkaaa
open Go.RowKit

theorem cap_bad {id tag : Int} {l : List Cv} (h : l.any bad = true) : capB id tag l = false := by unfold capB; simp [h]
theorem cap_good {id tag : Int} {l : List Cv} (h : l.any bad = false) : capB id tag l = (inr id 0 1000000 && (inr tag 0 2147483646 && decide (l.length ≤ 12))) := by unfold capB; simp [h]
set_option maxRecDepth 100000 in
set_option maxHeartbeats 4000000 in
theorem rcap_any (id tag : Int) (v : Value) (l : List Cv) (w : World) (h : CvsAt w v l) : Calls Try.prog 64 #[.agg #[.int .i64 id, v, .int .i64 tag]] w fun e w' => e = .returned (.bool (capB id tag l)) ∧ Below w.heap.size w w' := by
  have HL := Lib.hid h
  obtain ⟨a, cap, rfl, -, hm, -⟩ := h
  unfold maxLen at hm
  have HB0 := Lib.hid (al w (.cells #[.int .i64 id, .slice a l.length cap, .int .i64 tag] 27))
  have KA := Lib.hid (Cs.new w w.heap.size #[.int .i64 id, .slice a l.length cap, .int .i64 tag] 27 rfl)
  obtain ⟨W1, hW1⟩ : ∃ W1, w.alloc (.cells #[.int .i64 id, .slice a l.length cap, .int .i64 tag] 27) = W1 := ⟨_, rfl⟩
  go_enter Try.func64, Try.ntmps64
  go_wp2_with fail
  rw [hW1] at HB0 KA
  clear hW1
  go_loopw [3] (fun i wr => ∃ k : Nat, k ≤ l.length ∧ i = .int .i64 k ∧ Hid (∀ j, j < k → bad (l.getD j zC) = false) ∧ Hid (Below W1.heap.size W1 wr)) (fun i _ => l.length - (intOf i).toNat)
  case atStart => exact ⟨0, by omega, rfl, fun j h => absurd h (by omega), Below.refl _ _⟩
  case round =>
    obtain ⟨k, hk, rfl, HN, HW⟩ := hrel
    have HB := Lib.hid (keep2 HW.out HB0.out)
    have KR := Lib.hid (KA.out.step HW.out)
    have y0 := KR.out.c 0 rfl
    have y1 := KR.out.c 1 rfl
    have y2 := KR.out.c 2 rfl
    have yz := KR.out.2.2
    by_cases hlt : k < l.length
    · obtain ⟨a2, cap2, hva, -, -, hcs⟩ := HL.out.step HB.out
      obtain ⟨rfl, rfl⟩ : a = a2 ∧ cap = cap2 := by simpa using hva
      obtain ⟨b, off, rfl, hcs2⟩ := hcs (by intro h; rw [h] at hlt; simp at hlt)
      obtain ⟨x0, x1⟩ := hcs2 k _ (cv_get hlt)
      clear hcs hcs2 hva
      cases hf : bad (l.getD k zC)
      · have HF := Lib.hid hf
        have HN2 := Lib.hid (show ∀ j, j < k + 1 → bad (l.getD j zC) = false from fun j h => by
          by_cases e : j = k
          · subst e; exact hf
          · exact HN.out j (by omega))
        clear hf HN
        generalize l.getD k zC = x at *
        obtain ⟨xk, xv⟩ := x
        simp only at x0 x1
        go_wp2_with fail
        refine (rcaveat_any xk xv _).mono ?_
        rintro e w' ⟨rfl, b1⟩
        rw [show cvB xk xv = true by have := HF.out; unfold bad at this; simpa using this]
        have HW2 := Lib.hid (keep2 b1 HW.out)
        clear b1 x0 x1 y0 y1 y2
        go_wp2
        go_roundw
        case rel => exact ⟨k + 1, by omega, by go_num, HN2, HW2⟩
        case measure => simp [intOf]; omega
      · have HF := Lib.hid hf
        have HA := Lib.hid (cap_bad (id := id) (tag := tag) (any_hit hlt hf))
        clear hf HN
        generalize l.getD k zC = x at *
        obtain ⟨xk, xv⟩ := x
        simp only at x0 x1
        go_wp2_with fail
        refine (rcaveat_any xk xv _).mono ?_
        rintro e w' ⟨rfl, b1⟩
        rw [show cvB xk xv = false by have := HF.out; unfold bad at this; simpa using this]
        have HB2 := Lib.hid (keep2 b1 HB.out)
        clear b1 x0 x1 y0 y1 y2
        go_wp2
        go_ret
        exact ⟨ret_bool HA.out.symm, HB2.out⟩
    · have HG := Lib.hid (cap_good (id := id) (tag := tag) (any_none fun j hj => HN.out j (by omega)))
      obtain rfl : k = l.length := by omega
      cases h1 : inr id 0 1000000
      · have HR := Lib.hid (show capB id tag l = false by rw [HG.out, h1]; rfl)
        have H1 := Lib.hid h1; clear h1
        go_wp2_with fail
        refine (between_q id 0 1000000 _ H1.out _).mono ?_
        rintro e w' ⟨rfl, rfl⟩
        go_wp2
        go_ret
        exact ⟨ret_bool HR.out.symm, HB.out⟩
      · by_cases h3 : l.length ≤ 12
        · have h4 : decide ((l.length : Int) ≤ 12) = true := by simp; omega
          have HR := Lib.hid (show capB id tag l = inr tag 0 2147483646 by rw [HG.out, h1]; simp [h3])
          have H1 := Lib.hid h1; clear h1 h3
          go_wp2_with fail
          refine (between_q id 0 1000000 _ H1.out _).mono ?_
          rintro e w' ⟨rfl, rfl⟩
          go_wp2_with fail
          refine (rkey_any tag _).mono ?_
          rintro e w' ⟨rfl, rfl⟩
          go_wp2
          go_ret
          exact ⟨ret_bool HR.out.symm, HB.out⟩
        · have h4 : decide ((l.length : Int) ≤ 12) = false := by simp; omega
          have HR := Lib.hid (show capB id tag l = false by rw [HG.out]; simp [h3])
          have H1 := Lib.hid h1; clear h1 h3
          go_wp2_with fail
          refine (between_q id 0 1000000 _ H1.out _).mono ?_
          rintro e w' ⟨rfl, rfl⟩
          go_wp2
          go_ret
          exact ⟨ret_bool HR.out.symm, HB.out⟩
end Go.Proofs.Ytpoldplmaomkaaa
