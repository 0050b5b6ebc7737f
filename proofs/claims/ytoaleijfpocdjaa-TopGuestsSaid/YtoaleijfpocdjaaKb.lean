/- Capabilities: lists of caveats, what a capability is. -/
import Derived.Test.YtoaleijfpocdjaaKa
import Derived.Test.YtoaleijfpocdjaaCd
namespace Go.Proofs.Ytoaleijfpocdjaa
open Go.RowKit

/-- A caveat. -/
structure Cv where
  k : Int
  v : Int
def zC : Cv := ⟨0, 0⟩
instance : Inhabited Cv := ⟨zC⟩
/-- A list of caveats behind a slice. -/
def CvsAt (w : World) (v : Value) (l : List Cv) : Prop :=
  ∃ a cap, v = .slice a l.length cap ∧ l.length ≤ cap ∧ l.length ≤ maxLen ∧ (l ≠ [] → ∃ b off, a = some ⟨b, off, none⟩ ∧ ∀ (i : Nat) (x : Cv), l[i]? = some x →
    w.cell? ⟨b, off + i * 2, none⟩ = some (.int .i64 x.k) ∧ w.cell? ⟨b, off + i * 2 + 1, none⟩ = some (.int .i64 x.v))
theorem CvsAt.step {w w1 : World} {v : Value} {l : List Cv} (h : CvsAt w v l) (hb : Below w.heap.size w w1) : CvsAt w1 v l := by
  obtain ⟨a, cap, hv, h1, hm, hc⟩ := h
  refine ⟨a, cap, hv, h1, hm, fun hl => ?_⟩
  obtain ⟨b, off, ha, hx⟩ := hc hl
  exact ⟨b, off, ha, fun i x h => ⟨keep1 hb (hx i x h).1, keep1 hb (hx i x h).2⟩⟩
theorem cvs_nil (w : World) : CvsAt w (.slice none 0 0) [] := ⟨none, 0, rfl, by simp, by simp, fun h => absurd rfl h⟩
theorem cv_get {l : List Cv} {k : Nat} (h : k < l.length) : l[k]? = some (l.getD k zC) := by simp [h]
/-- No caveat at all. -/
def bad (c : Cv) : Bool := !cvB c.k c.v
def capB (id tag : Int) (l : List Cv) : Bool := inr id 0 1000000 && (inr tag 0 2147483646 && (decide (l.length ≤ 12) && !l.any bad))
theorem any_hit {l : List Cv} {k : Nat} (h : k < l.length) (hb : bad (l.getD k zC) = true) : l.any bad = true := by
  rw [List.any_eq_true]
  exact ⟨l[k], List.getElem_mem h, by rwa [show l.getD k zC = l[k] by simp [h]] at hb⟩
theorem any_none {l : List Cv} (h : ∀ j, j < l.length → bad (l.getD j zC) = false) : l.any bad = false := by
  rw [List.any_eq_false]
  intro x hx
  obtain ⟨j, hj, rfl⟩ := List.mem_iff_getElem.1 hx
  have := h j hj
  rw [show l.getD j zC = l[j] by simp [hj]] at this
  rw [this]; simp
set_option maxRecDepth 100000 in
set_option maxHeartbeats 1000000 in
theorem indexFunc_any (v : Value) (l : List Cv) (w : World) (h : CvsAt w v l) :
    Calls Try.prog 48 #[v, .func (.func 44) #[] #[]] w fun e w' => (∃ k : Int, e = .returned (.int .i64 k) ∧ decide (0 ≤ k) = l.any bad) ∧ Below w.heap.size w w' := by
  have HL := Lib.hid h
  obtain ⟨a, cap, rfl, hcp, hm, hc⟩ := h
  unfold maxLen at hm
  clear hc hcp
  have heg : ∀ args w, (callFunc 44 args).run Try.prog w = .ok (.enter 44 args) w := fun _ _ => by kernel_rfl
  go_enter Try.func48, Try.ntmps48
  go_wp2_with fail
  go_loopw [8] (fun i wr => ∃ k : Nat, k ≤ l.length ∧ i = .int .i64 k ∧ Hid (∀ j, j < k → bad (l.getD j zC) = false) ∧ Hid (Below w.heap.size w wr)) (fun i _ => l.length - (intOf i).toNat)
  case atStart => exact ⟨0, by omega, rfl, fun j h => absurd h (by omega), Below.refl _ _⟩
  case round =>
    obtain ⟨k, hk, rfl, HN, HB⟩ := hrel
    by_cases hlt : k < l.length
    · obtain ⟨a2, cap2, hva, -, -, hcs⟩ := HL.out.step HB.out
      obtain ⟨rfl, rfl⟩ : a = a2 ∧ cap = cap2 := by simpa using hva
      obtain ⟨b, off, rfl, hcs2⟩ := hcs (by intro h; rw [h] at hlt; simp at hlt)
      obtain ⟨x0, x1⟩ := hcs2 k _ (cv_get hlt)
      clear hcs hcs2 hva
      cases hf : bad (l.getD k zC)
      · have HF := Lib.hid hf
        have HN2 := Lib.hid (show ∀ j, j < k + 1 → bad (l.getD j zC) = false from fun j h => by
          by_cases e : j = k
          · subst e; exact hf
          · exact HN.out j (by omega))
        clear hf HN
        generalize l.getD k zC = x at *
        obtain ⟨xk, xv⟩ := x
        simp only at x0 x1
        go_wp2_with (go_at_call 44; go_must (refine (isCap1_any xk xv _).mono ?_); rintro e w' ⟨rfl, b1⟩; rw [show (!cvB xk xv) = false from HF.out])
        have HB2 := Lib.hid (keep2 b1 HB.out)
        clear b1 x0 x1
        go_wp2
        go_roundw
        case rel => exact ⟨k + 1, by omega, by go_num, HN2, HB2⟩
        case measure => simp [intOf]; omega
      · have HF := Lib.hid hf
        have HA := Lib.hid (any_hit hlt hf)
        clear hf HN
        generalize l.getD k zC = x at *
        obtain ⟨xk, xv⟩ := x
        simp only at x0 x1
        go_wp2_with (go_at_call 44; go_must (refine (isCap1_any xk xv _).mono ?_); rintro e w' ⟨rfl, b1⟩; rw [show (!cvB xk xv) = true from HF.out])
        have HB2 := Lib.hid (keep2 b1 HB.out)
        clear b1 x0 x1
        go_wp2
        go_ret
        exact ⟨⟨k, rfl, by rw [HA.out]; simp⟩, HB2.out⟩
    · have HF := Lib.hid (any_none fun j hj => HN.out j (by omega))
      go_wp2
      go_ret
      exact ⟨⟨-1, rfl, by rw [HF.out]; rfl⟩, HB.out⟩
theorem contains_any (v : Value) (l : List Cv) (w : World) (h : CvsAt w v l) :
    Calls Try.prog 45 #[v, .func (.func 44) #[] #[]] w fun e w' => e = .returned (.bool (l.any bad)) ∧ Below w.heap.size w w' := by
  have H := Lib.hid h
  clear h
  go_enter Try.func45, Try.ntmps45
  go_wp2_with fail
  refine (indexFunc_any v l _ H.out).mono ?_
  rintro e w' ⟨⟨k, rfl, hk⟩, b1⟩
  have HK := Lib.hid hk
  have HB := Lib.hid b1
  clear hk b1
  go_wp2
  go_ret
  exact ⟨ret_bool HK.out, HB.out⟩
set_option maxRecDepth 100000 in
set_option maxHeartbeats 2000000 in
theorem isCap_any (id tag : Int) (v : Value) (l : List Cv) (w : World) (h : CvsAt w v l) : Calls Try.prog 25 #[.agg #[.int .i64 id, v, .int .i64 tag]] w fun e w' => e = .returned (.bool (capB id tag l)) ∧ Below w.heap.size w w' := by
  have H := Lib.hid h
  obtain ⟨a, cap, rfl, -, hm, -⟩ := h
  have HB0 := Lib.hid (al w (.cells #[.int .i64 id, .slice a l.length cap, .int .i64 tag] 30))
  cases h1 : inr id 0 1000000
  · clear hm
    have HR := Lib.hid (show capB id tag l = false by unfold capB; simp [h1])
    have H0 := Lib.hid h1
    go_enter Try.func25, Try.ntmps25
    go_wp2_with fail
    refine (within_q id 0 1000000 _ H0.out _).mono ?_
    rintro e w' ⟨rfl, rfl⟩
    go_wp2
    go_ret
    exact ⟨ret_bool HR.out.symm, HB0.out⟩
  · cases h2 : inr tag 0 2147483646
    · clear hm
      have HR := Lib.hid (show capB id tag l = false by unfold capB; simp [h1, h2])
      have H0 := Lib.hid h1
      have H1 := Lib.hid h2
      go_enter Try.func25, Try.ntmps25
      go_wp2_with fail
      refine (within_q id 0 1000000 _ H0.out _).mono ?_
      rintro e w' ⟨rfl, rfl⟩
      go_wp2_with fail
      refine (within_q tag 0 2147483646 _ H1.out _).mono ?_
      rintro e w' ⟨rfl, rfl⟩
      go_wp2
      go_ret
      exact ⟨ret_bool HR.out.symm, HB0.out⟩
    · by_cases h3 : l.length ≤ 12
      · have h4 : decide ((l.length : Int) ≤ 12) = true := by simp; omega
        have HR := Lib.hid (show capB id tag l = !l.any bad by unfold capB; simp [h1, h2, h3])
        have H0 := Lib.hid h1
        have H1 := Lib.hid h2
        have H2 := Lib.hid h3
        go_enter Try.func25, Try.ntmps25
        go_wp2_with fail
        refine (within_q id 0 1000000 _ H0.out _).mono ?_
        rintro e w' ⟨rfl, rfl⟩
        go_wp2_with fail
        refine (within_q tag 0 2147483646 _ H1.out _).mono ?_
        rintro e w' ⟨rfl, rfl⟩
        clear h3
        go_wp2_with fail
        refine (contains_any _ l _ (H.out.step HB0.out)).mono ?_
        rintro e w1 ⟨rfl, b1⟩
        have HB1 := Lib.hid (keep2 b1 HB0.out)
        clear b1
        go_wp2
        go_ret
        exact ⟨ret_bool HR.out.symm, HB1.out⟩
      · have h4 : decide ((l.length : Int) ≤ 12) = false := by simp; omega
        have HR := Lib.hid (show capB id tag l = false by unfold capB; simp [h1, h2, h3])
        have H0 := Lib.hid h1
        have H1 := Lib.hid h2
        have H2 := Lib.hid h3
        go_enter Try.func25, Try.ntmps25
        go_wp2_with fail
        refine (within_q id 0 1000000 _ H0.out _).mono ?_
        rintro e w' ⟨rfl, rfl⟩
        go_wp2_with fail
        refine (within_q tag 0 2147483646 _ H1.out _).mono ?_
        rintro e w' ⟨rfl, rfl⟩
        go_wp2
        go_ret
        exact ⟨ret_bool HR.out.symm, HB0.out⟩
end Go.Proofs.Ytoaleijfpocdjaa
