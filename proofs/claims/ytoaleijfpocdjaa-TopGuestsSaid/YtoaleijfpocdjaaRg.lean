/- Sets of tags: is one of a list in a set? -/
import Derived.Test.YtoaleijfpocdjaaRe
namespace Go.Proofs.Ytoaleijfpocdjaa
open Go.RowKit

theorem anyI_hit {c l : List Int} {k : Nat} (h : k < c.length) (hb : inB l (c.getD k 0) = true) : c.any (inB l) = true := by
  rw [List.any_eq_true]
  exact ⟨c[k], List.getElem_mem h, by rwa [show c.getD k 0 = c[k] by simp [h]] at hb⟩
theorem anyI_none {c l : List Int} (h : ∀ j, j < c.length → inB l (c.getD j 0) = false) : c.any (inB l) = false := by
  rw [List.any_eq_false]
  intro x hx
  obtain ⟨j, hj, rfl⟩ := List.mem_iff_getElem.1 hx
  have := h j hj
  rw [show c.getD j 0 = c[j] by simp [hj]] at this
  rw [this]; simp
set_option maxRecDepth 100000 in
set_option maxHeartbeats 1000000 in
theorem indexHas_any (u v : Value) (c l : List Int) (w : World) (h : IntsAt w u c) (hv : IntsAt w v l) (hst : stB l = true) (hb : ∀ z ∈ c, 0 ≤ z ∧ z ≤ 2147483646) :
    Calls Try.prog 46 #[u, .func (.func 36) #[.agg #[v, .func (.func 41) #[] #[]]] #[]] w fun e w' => (∃ k : Int, e = .returned (.int .i64 k) ∧ decide (0 ≤ k) = c.any (inB l)) ∧ Below w.heap.size w w' := by
  have HL := Lib.hid h
  have HV := Lib.hid hv
  have HST := Lib.hid hst
  have HCB := Lib.hid hb
  obtain ⟨a, cap, rfl, hm, hc⟩ := h
  unfold maxLen at hm
  clear hc hv hb hst
  have heg : ∀ args w, (callFunc 36 args).run Try.prog w = .ok (.enter 36 args) w := fun _ _ => by kernel_rfl
  go_enter Try.func46, Try.ntmps46
  go_wp2_with fail
  go_loopw [8] (fun i wr => ∃ k : Nat, k ≤ c.length ∧ i = .int .i64 k ∧ Hid (∀ j, j < k → inB l (c.getD j 0) = false) ∧ Hid (Below w.heap.size w wr)) (fun i _ => c.length - (intOf i).toNat)
  case atStart => exact ⟨0, by omega, rfl, fun j h => absurd h (by omega), Below.refl _ _⟩
  case round =>
    obtain ⟨k, hk, rfl, HN, HB⟩ := hrel
    by_cases hlt : k < c.length
    · obtain ⟨a2, cap2, hva, -, hcs⟩ := HL.out.step HB.out
      obtain ⟨rfl, rfl⟩ : a = a2 ∧ cap = cap2 := by simpa using hva
      obtain ⟨b, off, rfl, hcs2⟩ := hcs (by intro h; rw [h] at hlt; simp at hlt)
      have x0 := hcs2 k _ (getD_of hlt)
      have hxb := HCB.out (c.getD k 0) (by simp [hlt])
      clear hcs hcs2 hva
      cases hf : inB l (c.getD k 0)
      · have HF := Lib.hid hf
        have HN2 := Lib.hid (show ∀ j, j < k + 1 → inB l (c.getD j 0) = false from fun j h => by
          by_cases e : j = k
          · subst e; exact hf
          · exact HN.out j (by omega))
        clear hf HN
        generalize c.getD k 0 = x at *
        go_wp2_with (go_at_call 36; go_must (refine (has_any v l x _ (HV.out.step HB.out) HST.out (by omega)).mono ?_); rintro e w' ⟨rfl, b1⟩; rw [HF.out])
        have HB2 := Lib.hid (keep2 b1 HB.out)
        clear b1 x0
        go_wp2
        go_roundw
        case rel => exact ⟨k + 1, by omega, by go_num, HN2, HB2⟩
        case measure => simp [intOf]; omega
      · have HF := Lib.hid hf
        have HA := Lib.hid (anyI_hit hlt hf)
        clear hf HN
        generalize c.getD k 0 = x at *
        go_wp2_with (go_at_call 36; go_must (refine (has_any v l x _ (HV.out.step HB.out) HST.out (by omega)).mono ?_); rintro e w' ⟨rfl, b1⟩; rw [HF.out])
        have HB2 := Lib.hid (keep2 b1 HB.out)
        clear b1 x0
        go_wp2
        go_ret
        exact ⟨⟨k, rfl, by rw [HA.out]; simp⟩, HB2.out⟩
    · have HF := Lib.hid (anyI_none fun j hj => HN.out j (by omega))
      go_wp2
      go_ret
      exact ⟨⟨-1, rfl, by rw [HF.out]; rfl⟩, HB.out⟩
theorem containsHas_any (u v : Value) (c l : List Int) (w : World) (h : IntsAt w u c) (hv : IntsAt w v l) (hst : stB l = true) (hb : ∀ z ∈ c, 0 ≤ z ∧ z ≤ 2147483646) :
    Calls Try.prog 35 #[u, .func (.func 36) #[.agg #[v, .func (.func 41) #[] #[]]] #[]] w fun e w' => e = .returned (.bool (c.any (inB l))) ∧ Below w.heap.size w w' := by
  have H := Lib.hid (indexHas_any u v c l w h hv hst hb)
  clear h hv hst hb
  go_enter Try.func35, Try.ntmps35
  go_wp2_with fail
  refine H.out.mono ?_
  rintro e w' ⟨⟨k, rfl, hk⟩, b1⟩
  have HK := Lib.hid hk
  have HB := Lib.hid b1
  clear hk b1
  go_wp2
  go_ret
  exact ⟨ret_bool HK.out, HB.out⟩
end Go.Proofs.Ytoaleijfpocdjaa
