/- Quiet hours: which windows are well-formed, in both texts. -/
import Derived.Test.YtmejpmnipejpiaaHb
namespace Go.Proofs.Ytmejpmnipejpiaa
open Go.RowKit

theorem isMin_q (n : Int) (b : Bool) (hb : minB n = b) (w : World) : Calls Try.prog 26 #[.int .i64 n] w fun e w' => e = .returned (.bool b) ∧ w = w' := by
  rw [← hb]; exact isMin_any n w
theorem okW_is (f t : Int) : okW (f, t) = (minB f && minB t && !(f == t)) := by unfold okW; rw [minB_is, minB_is]
theorem all_no {l : List (Int × Int)} {k : Nat} (h : k < l.length) (hb : okW (l.getD k (0, 0)) = false) : l.all okW = false := by
  rw [← Bool.not_eq_true, List.all_eq_true]
  intro h2
  have := h2 l[k] (List.getElem_mem h)
  rw [show l.getD k (0, 0) = l[k] by simp [h]] at hb
  rw [hb] at this
  cases this
theorem all_yes {l : List (Int × Int)} (h : ∀ j, j < l.length → okW (l.getD j (0, 0)) = true) : l.all okW = true := by
  rw [List.all_eq_true]
  intro x hx
  obtain ⟨j, hj, rfl⟩ := List.mem_iff_getElem.1 hx
  have := h j hj
  rwa [show l.getD j (0, 0) = l[j] by simp [hj]] at this
set_option maxRecDepth 100000 in
set_option maxHeartbeats 4000000 in
theorem valid_any (v : Value) (l : List (Int × Int)) (w : World) (h : WinsAt w v l) : Calls Try.prog 12 #[v] w fun e w' => e = .returned (.bool (okL l)) ∧ Below w.heap.size w w' := by
  have HL := Lib.hid h
  obtain ⟨a, cap, rfl, hcp, hm, hc⟩ := h
  unfold maxLen at hm
  clear hc hcp
  by_cases h8 : l.length ≤ 8
  · have HR := Lib.hid (show okL l = l.all okW by unfold okL; simp [h8])
    have g1 : decide ((l.length : Int) > 8) = false := by simp; omega
    have g1b : decide ((8 : Int) < l.length) = false := by simp; omega
    go_enter Try.func12, Try.ntmps12
    go_wp2_with fail
    clear g1 g1b
    go_loopw [10] (fun i wr => ∃ k : Nat, k ≤ l.length ∧ i = .int .i64 k ∧ Hid (∀ j, j < k → okW (l.getD j (0, 0)) = true) ∧ Hid (Below w.heap.size w wr)) (fun i _ => l.length - (intOf i).toNat)
    case atStart => exact ⟨0, by omega, rfl, fun j h => absurd h (by omega), Below.refl _ _⟩
    case round =>
      obtain ⟨k, hk, rfl, HN, HB⟩ := hrel
      by_cases hlt : k < l.length
      · obtain ⟨a2, cap2, hva, -, -, hcs⟩ := HL.out.step HB.out
        obtain ⟨rfl, rfl⟩ : a = a2 ∧ cap = cap2 := by simpa using hva
        obtain ⟨b, off, rfl, hcs2⟩ := hcs (by intro h; rw [h] at hlt; simp at hlt)
        obtain ⟨x0, x1⟩ := hcs2 k _ (win_get (d := (0, 0)) hlt)
        clear hcs hcs2 hva
        have HO := Lib.hid (fun e => all_no (l := l) hlt e)
        have HY := Lib.hid (show okW (l.getD k (0, 0)) = true → ∀ j, j < k + 1 → okW (l.getD j (0, 0)) = true from fun e j h => by
          by_cases hjk : j = k
          · rw [hjk]; exact e
          · exact HN.out j (by omega))
        generalize l.getD k (0, 0) = p at *
        obtain ⟨f, t⟩ := p
        rw [okW_is] at HO HY
        simp only at x0 x1
        have xb : b < wr.heap.size := World.block_lt_of_cell? _ _ x0
        cases h1 : minB f
        · rw [h1] at HO
          have H1 := Lib.hid h1
          clear h1
          go_wp2_with fail
          refine (isMin_q f _ H1.out _).mono ?_
          rintro e w' ⟨rfl, rfl⟩
          go_wp2
          go_ret
          exact ⟨ret_bool (a := false) (by rw [HR.out, HO.out rfl]), HB.out.alloc HB.out.size _⟩
        · cases h2 : minB t
          · rw [h1, h2] at HO
            have H1 := Lib.hid h1
            have H2 := Lib.hid h2
            clear h1 h2
            go_wp2_with fail
            refine (isMin_q f _ H1.out _).mono ?_
            rintro e w' ⟨rfl, rfl⟩
            go_wp2_with fail
            refine (isMin_q t _ H2.out _).mono ?_
            rintro e w' ⟨rfl, rfl⟩
            go_wp2
            go_ret
            exact ⟨ret_bool (a := false) (by rw [HR.out, HO.out rfl]), HB.out.alloc HB.out.size _⟩
          · rw [h1, h2] at HO HY
            have H1 := Lib.hid h1
            have H2 := Lib.hid h2
            clear h1 h2
            cases h3 : (f == t)
            · rw [h3] at HO HY
              go_wp2_with fail
              refine (isMin_q f _ H1.out _).mono ?_
              rintro e w' ⟨rfl, rfl⟩
              go_wp2_with fail
              refine (isMin_q t _ H2.out _).mono ?_
              rintro e w' ⟨rfl, rfl⟩
              go_wp2
              go_roundw
              case rel => exact ⟨k + 1, hlt, by go_num, HY.out rfl, HB.out.alloc HB.out.size _⟩
              case measure => simp [intOf]; omega
            · rw [h3] at HO
              go_wp2_with fail
              refine (isMin_q f _ H1.out _).mono ?_
              rintro e w' ⟨rfl, rfl⟩
              go_wp2_with fail
              refine (isMin_q t _ H2.out _).mono ?_
              rintro e w' ⟨rfl, rfl⟩
              go_wp2
              go_ret
              exact ⟨ret_bool (a := false) (by rw [HR.out, HO.out rfl]), HB.out.alloc HB.out.size _⟩
      · obtain rfl : k = l.length := by omega
        go_wp2
        go_ret
        exact ⟨ret_bool (a := true) (by rw [HR.out, all_yes HN.out]), HB.out⟩
  · have HR := Lib.hid (show okL l = false by unfold okL; simp [h8])
    have g1 : decide ((l.length : Int) > 8) = true := by simp; omega
    have g1b : decide ((8 : Int) < l.length) = true := by simp; omega
    go_enter Try.func12, Try.ntmps12
    go_wp2
    go_ret
    exact ⟨ret_bool (a := false) (by rw [HR.out]), Below.refl _ _⟩
set_option maxRecDepth 100000 in
set_option maxHeartbeats 4000000 in
theorem rvalid_any (v : Value) (l : List (Int × Int)) (w : World) (h : WinsAt w v l) : Calls Try.prog 13 #[v] w fun e w' => e = .returned (.bool (okL l)) ∧ Below w.heap.size w w' := by
  have HL := Lib.hid h
  obtain ⟨a, cap, rfl, hcp, hm, hc⟩ := h
  unfold maxLen at hm
  clear hc hcp
  go_enter Try.func13, Try.ntmps13
  go_wp2_with fail
  go_loopw [3] (fun i wr => ∃ k : Nat, k ≤ l.length ∧ i = .int .i64 k ∧ Hid (∀ j, j < k → okW (l.getD j (0, 0)) = true) ∧ Hid (Below w.heap.size w wr)) (fun i _ => l.length - (intOf i).toNat)
  case atStart => exact ⟨0, by omega, rfl, fun j h => absurd h (by omega), Below.refl _ _⟩
  case round =>
    obtain ⟨k, hk, rfl, HN, HB⟩ := hrel
    by_cases hlt : k < l.length
    · obtain ⟨a2, cap2, hva, -, -, hcs⟩ := HL.out.step HB.out
      obtain ⟨rfl, rfl⟩ : a = a2 ∧ cap = cap2 := by simpa using hva
      obtain ⟨b, off, rfl, hcs2⟩ := hcs (by intro h; rw [h] at hlt; simp at hlt)
      obtain ⟨x0, x1⟩ := hcs2 k _ (win_get (d := (0, 0)) hlt)
      clear hcs hcs2 hva
      have HO := Lib.hid (show okW (l.getD k (0, 0)) = false → okL l = false from fun e => by unfold okL; rw [all_no (l := l) hlt e, Bool.and_false])
      have HY := Lib.hid (show okW (l.getD k (0, 0)) = true → ∀ j, j < k + 1 → okW (l.getD j (0, 0)) = true from fun e j h => by
        by_cases hjk : j = k
        · rw [hjk]; exact e
        · exact HN.out j (by omega))
      generalize l.getD k (0, 0) = p at *
      obtain ⟨f, t⟩ := p
      simp only at x0 x1
      have xb : b < wr.heap.size := World.block_lt_of_cell? _ _ x0
      have HD := Lib.hid (show okW (f, t) = (decide (0 ≤ f) && decide (f ≤ 1439) && (decide (0 ≤ t) && decide (t ≤ 1439)) && !(f == t)) from rfl)
      by_cases h1 : f < 0
      · rw [HD.out] at HO
        have h1c := Lib.hid (show (decide (0 ≤ f) && decide (f ≤ 1439) && (decide (0 ≤ t) && decide (t ≤ 1439)) && !(f == t)) = false by rw [decide_eq_false (show ¬ 0 ≤ f by omega)]; rfl)
        go_wp2
        go_ret
        exact ⟨ret_bool (a := false) (by rw [HO.out h1c.out]), HB.out.alloc HB.out.size _⟩
      · by_cases h2 : 1439 < f
        · rw [HD.out] at HO
          have h1c := Lib.hid (show (decide (0 ≤ f) && decide (f ≤ 1439) && (decide (0 ≤ t) && decide (t ≤ 1439)) && !(f == t)) = false by rw [decide_eq_false (show ¬ f ≤ 1439 by omega)]; simp)
          go_wp2
          go_ret
          exact ⟨ret_bool (a := false) (by rw [HO.out h1c.out]), HB.out.alloc HB.out.size _⟩
        · by_cases h3 : t < 0
          · rw [HD.out] at HO
            have h1c := Lib.hid (show (decide (0 ≤ f) && decide (f ≤ 1439) && (decide (0 ≤ t) && decide (t ≤ 1439)) && !(f == t)) = false by rw [decide_eq_false (show ¬ 0 ≤ t by omega)]; simp)
            go_wp2
            go_ret
            exact ⟨ret_bool (a := false) (by rw [HO.out h1c.out]), HB.out.alloc HB.out.size _⟩
          · by_cases h4 : 1439 < t
            · rw [HD.out] at HO
              have h1c := Lib.hid (show (decide (0 ≤ f) && decide (f ≤ 1439) && (decide (0 ≤ t) && decide (t ≤ 1439)) && !(f == t)) = false by rw [decide_eq_false (show ¬ t ≤ 1439 by omega)]; simp)
              go_wp2
              go_ret
              exact ⟨ret_bool (a := false) (by rw [HO.out h1c.out]), HB.out.alloc HB.out.size _⟩
            · cases h5 : (f == t)
              · have h1c := Lib.hid (show okW (f, t) = true by rw [HD.out, h5]; simp; omega)
                have HZ := Lib.hid (HY.out h1c.out)
                clear HD HO HY h1c
                go_wp2
                go_roundw
                case rel => exact ⟨k + 1, hlt, by go_num, HZ.out, HB.out.alloc HB.out.size _⟩
                case measure => simp [intOf]; omega
              · have h1c := Lib.hid (show okW (f, t) = false by rw [HD.out, h5]; simp)
                have HZ := Lib.hid (HO.out h1c.out)
                clear HD HO HY h1c
                go_wp2
                go_ret
                exact ⟨ret_bool (a := false) (by rw [HZ.out]), HB.out.alloc HB.out.size _⟩
    · obtain rfl : k = l.length := by omega
      have HA := Lib.hid (all_yes HN.out)
      by_cases h8 : l.length ≤ 8
      · have HR := Lib.hid (show okL l = true by unfold okL; rw [HA.out]; simp [h8])
        have g1 : decide ((l.length : Int) ≤ 8) = true := by simp; omega
        go_wp2
        go_ret
        exact ⟨ret_bool (a := true) (by rw [HR.out]), HB.out⟩
      · have HR := Lib.hid (show okL l = false by unfold okL; simp [h8])
        have g1 : decide ((l.length : Int) ≤ 8) = false := by simp; omega
        go_wp2
        go_ret
        exact ⟨ret_bool (a := false) (by rw [HR.out]), HB.out⟩
end Go.Proofs.Ytmejpmnipejpiaa
