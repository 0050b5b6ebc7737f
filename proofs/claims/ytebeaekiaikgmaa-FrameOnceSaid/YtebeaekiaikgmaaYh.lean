/- Windows after numbers: 'in'; what they say. -/
import Derived.Test.YtebeaekiaikgmaaYg
namespace Go.Proofs.Ytebeaekiaikgmaa
open Go.RowKit

/-- A number is among those that were accepted. -/
def inP (l : List Int) (o : List Bool) (n : Int) (k : Nat) : Bool := o.getD k false && (l.getD k 0 == n)
def inB (l : List Int) (o : List Bool) (n : Int) : Bool := (List.range (min l.length o.length)).any (inP l o n)
theorem in_hit {l : List Int} {o : List Bool} {n : Int} {k : Nat} (h : k < l.length) (h' : k < o.length) (hp : inP l o n k = true) : inB l o n = true := by
  unfold inB
  rw [List.any_eq_true]
  exact ⟨k, by simp; omega, hp⟩
theorem in_none {l : List Int} {o : List Bool} {n : Int} (h : ∀ k, k < l.length → k < o.length → inP l o n k = false) : inB l o n = false := by
  unfold inB
  rw [List.any_eq_false]
  intro k hk
  have : k < l.length ∧ k < o.length := by simp at hk; omega
  rw [h k this.1 this.2]
  simp
theorem in_iff {l : List Int} {o : List Bool} {n : Int} : inB l o n = true ↔ ∃ k, k < l.length ∧ k < o.length ∧ o.getD k false = true ∧ l.getD k 0 = n := by
  constructor
  · intro h
    unfold inB at h
    rw [List.any_eq_true] at h
    obtain ⟨k, hk, hp⟩ := h
    unfold inP at hp
    rw [Bool.and_eq_true, beq_iff_eq] at hp
    have : k < l.length ∧ k < o.length := by simp at hk; omega
    exact ⟨k, this.1, this.2, hp.1, hp.2⟩
  · rintro ⟨k, h1, h2, h3, h4⟩
    exact in_hit h1 h2 (by unfold inP; rw [h3, h4]; simp)
/-- What the window says after some numbers. -/
theorem sem (l : List Int) : ∀ k, k ≤ l.length → (∀ j : Nat, j < 16 → ((stT l k).2.getD j false = true ↔ ∃ i, i < k ∧ okV l i = true ∧ 0 ≤ l.getD i 0 ∧ l.getD i 0 = (stT l k).1 - j)) ∧ (∀ i, i < k → okV l i = true → l.getD i 0 ≤ (stT l k).1) ∧ ((stT l k).1 = -1 ∨ ∃ i, i < k ∧ okV l i = true ∧ l.getD i 0 = (stT l k).1)
  | 0, _ => by
    refine ⟨fun j hj => ⟨fun h => ?_, fun ⟨i, h, _⟩ => by omega⟩, fun i h => by omega, .inl rfl⟩
    have : (stT l 0).2.getD j false = false := wf_new.2.2.2.2 j (by omega)
    rw [this] at h
    cases h
  | k + 1, hk => by
    obtain ⟨h1, h2, h3⟩ := sem l k (by omega)
    obtain ⟨w1, w2, w3, w4, w5⟩ := st_wf l k
    have e1 : (stT l (k + 1)).1 = accT (stT l k).1 (stT l k).2 (l.getD k 0) := rfl
    have e2 : (stT l (k + 1)).2 = accL (stT l k).1 (stT l k).2 (l.getD k 0) := rfl
    have e3 : okV l k = (accE (stT l k).1 (stT l k).2 (l.getD k 0) == 0) := rfl
    rw [e1, e2]
    generalize (stT l k).1 = t at *
    generalize (stT l k).2 = L at *
    obtain ⟨s, hs⟩ : ∃ s, l.getD k 0 = s := ⟨_, rfl⟩
    rw [hs] at e3 ⊢
    have same : okV l k = false → (∀ j : Nat, j < 16 → (L.getD j false = true ↔ ∃ i, i < k + 1 ∧ okV l i = true ∧ 0 ≤ l.getD i 0 ∧ l.getD i 0 = t - j)) ∧ (∀ i, i < k + 1 → okV l i = true → l.getD i 0 ≤ t) ∧ (t = -1 ∨ ∃ i, i < k + 1 ∧ okV l i = true ∧ l.getD i 0 = t) := fun hn => by
      refine ⟨fun j hj => (h1 j hj).trans ⟨fun ⟨i, g1, g2⟩ => ⟨i, by omega, g2⟩, fun ⟨i, g1, g2, g3⟩ => ?_⟩, fun i g1 g2 => ?_, h3.imp id fun ⟨i, g1, g2⟩ => ⟨i, by omega, g2⟩⟩
      · by_cases e : i = k
        · subst e; rw [g2] at hn; cases hn
        · exact ⟨i, by omega, g2, g3⟩
      · by_cases e : i = k
        · subst e; rw [g2] at hn; cases hn
        · exact h2 i (by omega) g2
    unfold accE at e3
    unfold accT accL
    by_cases q1 : s < 0 ∨ 1000000 < s
    · rw [if_pos q1] at e3
      rw [if_pos q1, if_pos q1]
      exact same (by rw [e3]; rfl)
    · rw [if_neg q1] at e3
      rw [if_neg q1, if_neg q1]
      by_cases q2 : t < s
      · rw [if_pos q2] at e3
        rw [if_pos q2, if_pos q2]
        have ok : okV l k = true := by rw [e3]; rfl
        refine ⟨fun j hj => ?_, fun i g1 g2 => ?_, .inr ⟨k, by omega, ok, hs⟩⟩
        · rw [shL_get _ _ _ hj]
          by_cases j0 : j = 0
          · subst j0
            refine ⟨fun _ => ⟨k, by omega, ok, by omega, by omega⟩, fun _ => rfl⟩
          · rw [show (j == 0) = false by simp [j0], Bool.false_or, Bool.and_eq_true, decide_eq_true_iff]
            constructor
            · rintro ⟨g1, g2⟩
              obtain ⟨i, a1, a2, a3, a4⟩ := (h1 _ (by omega)).1 g2
              exact ⟨i, by omega, a2, a3, by omega⟩
            · rintro ⟨i, a1, a2, a3, a4⟩
              have hik : i < k := by
                by_cases e : i = k
                · subst e; omega
                · omega
              have hb := h2 i hik a2
              exact ⟨by omega, (h1 _ (by omega)).2 ⟨i, hik, a2, a3, by omega⟩⟩
        · by_cases e : i = k
          · subst e; omega
          · have := h2 i (by omega) g2; omega
      · rw [if_neg q2] at e3
        rw [if_neg q2, if_neg q2]
        by_cases q3 : 16 ≤ t - s
        · rw [if_pos q3] at e3
          rw [if_pos q3]
          exact same (by rw [e3]; rfl)
        · rw [if_neg q3] at e3
          rw [if_neg q3]
          by_cases q4 : L.getD (t - s).toNat false = true
          · rw [if_pos q4] at e3
            rw [if_pos q4]
            exact same (by rw [e3]; rfl)
          · rw [if_neg q4] at e3
            rw [if_neg q4]
            have ok : okV l k = true := by rw [e3]; rfl
            have hg : ∀ j, (L.set (t - s).toNat true).getD j false = if (t - s).toNat = j then true else L.getD j false := fun j => by
              rw [List.getD_eq_getElem?_getD, List.getElem?_set]
              by_cases e : (t - s).toNat = j
              · rw [if_pos e, if_pos (by omega), if_pos e]; rfl
              · rw [if_neg e, if_neg e, List.getD_eq_getElem?_getD]
            refine ⟨fun j hj => ?_, fun i g1 g2 => ?_, h3.imp id fun ⟨i, g1, g2⟩ => ⟨i, by omega, g2⟩⟩
            · rw [hg]
              by_cases e : (t - s).toNat = j
              · rw [if_pos e]
                exact ⟨fun _ => ⟨k, by omega, ok, by omega, by omega⟩, fun _ => rfl⟩
              · rw [if_neg e]
                refine (h1 j hj).trans ⟨fun ⟨i, a1, a2⟩ => ⟨i, by omega, a2⟩, fun ⟨i, a1, a2, a3, a4⟩ => ?_⟩
                by_cases e5 : i = k
                · subst e5; omega
                · exact ⟨i, by omega, a2, a3, a4⟩
            · by_cases e : i = k
              · subst e; omega
              · exact h2 i (by omega) g2
/-- Which numbers are accepted. -/
theorem ok_iff (l : List Int) (k : Nat) (hk : k < l.length) : okV l k = true ↔ 0 ≤ l.getD k 0 ∧ l.getD k 0 ≤ 1000000 ∧ (¬ ∃ i, i < k ∧ okV l i = true ∧ l.getD i 0 = l.getD k 0) ∧ (stT l k).1 - 16 < l.getD k 0 := by
  obtain ⟨h1, h2, h3⟩ := sem l k (by omega)
  have e3 : okV l k = (accE (stT l k).1 (stT l k).2 (l.getD k 0) == 0) := rfl
  rw [e3]
  generalize (stT l k).1 = t at *
  generalize (stT l k).2 = L at *
  generalize l.getD k 0 = s at *
  unfold accE
  by_cases q1 : s < 0 ∨ 1000000 < s
  · rw [if_pos q1]
    exact ⟨(fun h => by cases h), fun ⟨a, b, _⟩ => by omega⟩
  · rw [if_neg q1]
    by_cases q2 : t < s
    · rw [if_pos q2]
      exact ⟨fun _ => ⟨by omega, by omega, fun ⟨i, a1, a2, a3⟩ => by have := h2 i a1 a2; omega, by omega⟩, fun _ => rfl⟩
    · rw [if_neg q2]
      by_cases q3 : 16 ≤ t - s
      · rw [if_pos q3]
        exact ⟨(fun h => by cases h), fun ⟨a, b, c, d⟩ => by omega⟩
      · rw [if_neg q3]
        by_cases q4 : L.getD (t - s).toNat false = true
        · rw [if_pos q4]
          obtain ⟨i, a1, a2, a3, a4⟩ := (h1 _ (by omega)).1 q4
          exact ⟨(fun h => by cases h), fun ⟨_, _, c, _⟩ => absurd ⟨i, a1, a2, by omega⟩ c⟩
        · rw [if_neg q4]
          exact ⟨fun _ => ⟨by omega, by omega, fun ⟨i, a1, a2, a3⟩ => q4 ((h1 _ (by omega)).2 ⟨i, a1, a2, by omega, by omega⟩), by omega⟩, fun _ => rfl⟩
set_option maxRecDepth 100000 in
set_option maxHeartbeats 8000000 in
theorem in_any (v u : Value) (l : List Int) (o : List Bool) (n : Int) (w : World) (h : IntsAt w v l) (h' : BosAt w u o) : Calls Try.prog 31 #[v, u, .int .i64 n] w fun e w' => e = .returned (.bool (inB l o n)) ∧ w = w' := by
  obtain ⟨a, cap, rfl, hm, hc⟩ := h
  obtain ⟨a', cap', rfl, hm', hc'⟩ := h'
  unfold maxLen at hm hm'
  have HC := Lib.hid hc
  have HC' := Lib.hid hc'
  clear hc hc'
  go_enter Try.func31, Try.ntmps31
  go_wp2_with fail
  go_loop [7] (fun i => ∃ k : Nat, k ≤ l.length ∧ k ≤ o.length ∧ i = .int .i64 k ∧ Hid (∀ j, j < k → inP l o n j = false)) (fun i => l.length - (intOf i).toNat)
  case atStart => exact ⟨0, by omega, by omega, rfl, Lib.hid (fun j h => by omega)⟩
  case round =>
    obtain ⟨k, hk, hk', rfl, HK⟩ := hrel
    have HK8 := Lib.hid (show ((k + 1 : Nat) : Int) = (k : Int) + 1 by omega)
    have t3 : (0 : Int) ≤ k := by omega
    by_cases hlt : k < l.length
    · have HLT := Lib.hid hlt
      have hkw : wrap64 ((k : Int) + 1) = k + 1 := IntWalk.wrap64_in _ (by omega)
      have t1 : (k : Int) < l.length := by omega
      have t2 : decide ((k : Int) < l.length) = true := by simp; omega
      by_cases hlo : k < o.length
      · have HLO := Lib.hid hlo
        have s1 : (k : Int) < o.length := by omega
        have s2 : decide ((k : Int) < o.length) = true := by simp; omega
        obtain ⟨b, off, rfl, hcs⟩ := HC.out (by intro h; rw [h] at hlt; simp at hlt)
        obtain ⟨b', off', rfl, hcs'⟩ := HC'.out (by intro h; rw [h] at hlo; simp at hlo)
        have x0 := hcs k _ (getD_of hlt)
        have y0 := hcs' k _ (bo_get hlo)
        have HIT := Lib.hid (in_hit (n := n) hlt hlo)
        have HN := Lib.hid (show inP l o n k = false → ∀ j, j < k + 1 → inP l o n j = false from fun hx j h => by
          by_cases e : j = k
          · subst e; exact hx
          · exact HK.out j (by omega))
        have HP := Lib.hid (show inP l o n k = (o.getD k false && (l.getD k 0 == n)) from rfl)
        clear hcs hcs' hk hk'
        generalize l.getD k 0 = x at *
        generalize o.getD k false = y at *
        cases y
        · have HE := Lib.hid (HN.out (by rw [HP.out]; rfl))
          go_wp2
          go_round
          case rel => exact ⟨k + 1, HLT.out, HLO.out, by first | rw [hkw, HK8.out] | rw [HK8.out], HE⟩
          case measure => have h2 := HLT.out; have h3 := HK8.out; (first | rw [hkw] | skip); simp [intOf]; omega
        · by_cases hx : x = n
          · have g1 : (x == n) = true := by simpa using hx
            have g2 : (x = n) = True := by simpa using hx
            have HE := Lib.hid (HIT.out (by rw [HP.out, g1]; rfl))
            clear hx
            go_wp2
            go_ret
            exact ⟨ret_bool (by rw [HE.out]), rfl⟩
          · have g1 : (x == n) = false := by simpa using hx
            have g2 : (x = n) = False := by simpa using hx
            have HE := Lib.hid (HN.out (by rw [HP.out, g1]; rfl))
            clear hx
            go_wp2
            go_round
            case rel => exact ⟨k + 1, HLT.out, HLO.out, by first | rw [hkw, HK8.out] | rw [HK8.out], HE⟩
            case measure => have h2 := HLT.out; have h3 := HK8.out; (first | rw [hkw] | skip); simp [intOf]; omega
      · have s2 : decide ((k : Int) < o.length) = false := by simp; omega
        have HE := Lib.hid (in_none (l := l) (o := o) (n := n) fun j h1 h2 => HK.out j (by omega))
        clear HK hk hk'
        go_wp2
        go_ret
        exact ⟨ret_bool (by rw [HE.out]), rfl⟩
    · have t2 : decide ((k : Int) < l.length) = false := by simp; omega
      have HE := Lib.hid (in_none (l := l) (o := o) (n := n) fun j h1 h2 => HK.out j (by omega))
      clear HK hk hk'
      go_wp2
      go_ret
      exact ⟨ret_bool (by rw [HE.out]), rfl⟩
end Go.Proofs.Ytebeaekiaikgmaa
