/- Shedding: the reference's comparison and its consumers; the law's small functions. -/
import Derived.Test.YtpablikcidlkaaaSn
namespace Go.Proofs.Ytpablikcidlkaaa
open Go.RowKit

theorem eq_of_getD {a b : List Bool} (hl : a.length = b.length) (h : ∀ j, j < a.length → a.getD j false = b.getD j false) : a = b := by
  apply List.ext_getElem hl
  intro i h1 h2
  have := h i h1
  simpa [h1, h2] using this
set_option maxRecDepth 100000 in
set_option maxHeartbeats 2000000 in
theorem same_any (va vb : Value) (a b : List Bool) (w : World) (ha : BosAt w va a) (hb : BosAt w vb b) : Calls Try.prog 15 #[va, vb] w fun e w' => e = .returned (.bool (decide (a = b))) ∧ Below w.heap.size w w' := by
  have HA := Lib.hid ha
  have HB := Lib.hid hb
  obtain ⟨aa, ac, rfl, -, hma, -⟩ := ha
  obtain ⟨ba, bc, rfl, -, hmb, -⟩ := hb
  unfold maxLen at hma hmb
  by_cases hl : a.length = b.length
  · have t0 : ((a.length : Int) != (b.length : Int)) = false := by simp; omega
    have HLN := Lib.hid hl
    clear hl
    go_enter Try.func15, Try.ntmps15
    go_wp2_with fail
    go_loopw [5] (fun iv wr => ∃ k : Nat, k ≤ a.length ∧ iv = .int .i64 k ∧ Hid (∀ j, j < k → a.getD j false = b.getD j false) ∧ Hid (Below w.heap.size w wr)) (fun iv _ => a.length - (intOf iv).toNat)
    case atStart => exact ⟨0, by omega, rfl, Lib.hid (fun j h => absurd h (by omega)), Lib.hid (Below.refl _ _)⟩
    case round =>
      obtain ⟨k, hk, rfl, HE, HW⟩ := hrel
      by_cases hlt : k < a.length
      · obtain ⟨a2, c2, hv, -, -, hcs⟩ := HA.out.step HW.out
        obtain ⟨b2, d2, hv2, -, -, hcs2⟩ := HB.out.step HW.out
        obtain ⟨rfl, rfl⟩ : aa = a2 ∧ ac = c2 := by simpa using hv
        obtain ⟨rfl, rfl⟩ : ba = b2 ∧ bc = d2 := by simpa using hv2
        have hlb : k < b.length := by rw [← HLN.out]; exact hlt
        obtain ⟨xb, xo, rfl, hx⟩ := hcs (by intro e; rw [e] at hlt; simp at hlt)
        obtain ⟨yb, yo, rfl, hy⟩ := hcs2 (by intro e; rw [e] at hlb; simp at hlb)
        have x0 := hx k _ (win_get (d := false) hlt)
        have y0 := hy k _ (win_get (d := false) hlb)
        have zx : xb < wr.heap.size := World.block_lt_of_cell? _ _ x0
        have zy : yb < wr.heap.size := World.block_lt_of_cell? _ _ y0
        have t1 : (k : Int) < (a.length : Int) := by omega
        have t2 : (k : Int) < (b.length : Int) := by omega
        clear hcs hcs2 hx hy hv hv2
        by_cases he : a.getD k false = b.getD k false
        · have HE2 := Lib.hid (show ∀ j, j < k + 1 → a.getD j false = b.getD j false from fun j h => by
            by_cases e : j = k
            · subst e; exact he
            · exact HE.out j (by omega))
          rw [← he] at y0
          clear he HE
          generalize a.getD k false = x at *
          have t3 : (x != x) = false := by simp
          go_wp2_with fail
          go_quiet (fail)
          go_wp2
          go_roundw
          case rel => exact ⟨k + 1, hlt, by go_num, HE2, Lib.hid (HW.out.trans ((below_drewN' _ _ _).mono HW.out.size))⟩
          case measure => simp [intOf]; omega
        · have HR := Lib.hid (show decide (a = b) = false from decide_eq_false fun e => he (by rw [e]))
          have t3 : (a.getD k false != b.getD k false) = true := by simpa using he
          clear he HE
          generalize a.getD k false = x at *
          generalize b.getD k false = y at *
          cases x <;> cases y
          any_goals (exfalso; revert t3; decide)
          all_goals
            clear t3
            go_wp2_with fail
            go_quiet (fail)
            go_wp2
            go_ret
            exact ⟨ret_bool HR.out.symm, HW.out.trans ((below_drewN' _ _ _).mono HW.out.size)⟩
      · obtain rfl : k = a.length := by omega
        have HR := Lib.hid (show decide (a = b) = true from decide_eq_true (eq_of_getD HLN.out fun j h => HE.out j h))
        go_wp2
        go_ret
        exact ⟨ret_bool HR.out.symm, HW.out⟩
  · have t0 : ((a.length : Int) != (b.length : Int)) = true := by simp; omega
    have t1 : ((a.length : Int) = (b.length : Int)) = False := by simp; omega
    have HR := Lib.hid (show decide (a = b) = false from decide_eq_false fun e => hl (by rw [e]))
    clear hl
    go_enter Try.func15, Try.ntmps15
    go_wp2
    go_ret
    exact ⟨ret_bool HR.out.symm, Below.refl _ _⟩
theorem bad_iff (x : Int × Int) : bad x = (decide (x.1 < 0) || decide (1000000 < x.1) || decide (x.2 < 0) || decide (100 < x.2)) := by
  unfold bad wiB
  rw [Bool.eq_iff_iff]
  simp
  omega
set_option maxRecDepth 100000 in
set_option maxHeartbeats 4000000 in
theorem valid_any (v : Value) (l : List (Int × Int)) (w : World) (h : ConsAt w v l) : Calls Try.prog 26 #[v] w fun e w' => e = .returned (.bool (acB l)) ∧ Below w.heap.size w w' := by
  have HL := Lib.hid h
  obtain ⟨a, cap, rfl, hcp, hm, hc⟩ := h
  unfold maxLen at hm
  clear hc hcp
  go_enter Try.func26, Try.ntmps26
  go_wp2_with fail
  go_loopw [3] (fun i wr => ∃ k : Nat, k ≤ l.length ∧ i = .int .i64 k ∧ Hid (∀ j, j < k → bad (l.getD j (0, 0)) = false) ∧ Hid (Below w.heap.size w wr)) (fun i _ => l.length - (intOf i).toNat)
  case atStart => exact ⟨0, by omega, rfl, Lib.hid (fun j h => absurd h (by omega)), Lib.hid (Below.refl _ _)⟩
  case round =>
    obtain ⟨k, hk, rfl, HN, HB⟩ := hrel
    by_cases hlt : k < l.length
    · obtain ⟨a2, cap2, hva, -, -, hcs⟩ := HL.out.step HB.out
      obtain ⟨rfl, rfl⟩ : a = a2 ∧ cap = cap2 := by simpa using hva
      obtain ⟨b, off, rfl, hcs2⟩ := hcs (by intro h; rw [h] at hlt; simp at hlt)
      obtain ⟨x0, x1⟩ := hcs2 k _ (win_get (d := (0, 0)) hlt)
      have zb : b < wr.heap.size := World.block_lt_of_cell? _ _ x0
      have t1 : (k : Int) < (l.length : Int) := by omega
      clear hcs hcs2 hva
      have hbi := bad_iff (l.getD k (0, 0))
      have HHIT := Lib.hid (fun hb => any_hit hlt hb)
      have HN2 := Lib.hid (show bad (l.getD k (0, 0)) = false → ∀ j, j < k + 1 → bad (l.getD j (0, 0)) = false from fun hf j h => by
        by_cases e : j = k
        · subst e; exact hf
        · exact HN.out j (by omega))
      clear HN
      have HBI := Lib.hid hbi
      clear hbi
      obtain ⟨bd, hbd⟩ : ∃ z, bad (l.getD k (0, 0)) = z := ⟨_, rfl⟩
      rw [hbd] at HN2 HHIT HBI
      clear hbd
      generalize l.getD k (0, 0) = x at *
      obtain ⟨p, q⟩ := x
      simp only at x0 x1
      have hbi := HBI.out
      simp only at hbi
      clear HBI
      by_cases c1 : p < 0
      · have HT := Lib.hid (show acB l = false by unfold acB; rw [HHIT.out (by rw [hbi]; simp [c1])]; simp)
        have c1b : decide (p < 0) = true := decide_eq_true c1
        clear hbi HHIT HN2
        go_wp2
        go_ret
        exact ⟨ret_bool HT.out.symm, HB.out⟩
      · have c1b : decide (p < 0) = false := decide_eq_false c1
        by_cases c2 : 1000000 < p
        · have HT := Lib.hid (show acB l = false by unfold acB; rw [HHIT.out (by rw [hbi]; simp [c2])]; simp)
          have c2b : decide (1000000 < p) = true := decide_eq_true c2
          clear hbi HHIT HN2
          go_wp2
          go_ret
          exact ⟨ret_bool HT.out.symm, HB.out⟩
        · have c2b : decide (1000000 < p) = false := decide_eq_false c2
          by_cases c3 : q < 0
          · have HT := Lib.hid (show acB l = false by unfold acB; rw [HHIT.out (by rw [hbi]; simp [c3])]; simp)
            have c3b : decide (q < 0) = true := decide_eq_true c3
            clear hbi HHIT HN2
            go_wp2
            go_ret
            exact ⟨ret_bool HT.out.symm, HB.out⟩
          · have c3b : decide (q < 0) = false := decide_eq_false c3
            by_cases c4 : 100 < q
            · have HT := Lib.hid (show acB l = false by unfold acB; rw [HHIT.out (by rw [hbi]; simp [c4])]; simp)
              have c4b : decide (100 < q) = true := decide_eq_true c4
              clear hbi HHIT HN2
              go_wp2
              go_ret
              exact ⟨ret_bool HT.out.symm, HB.out⟩
            · have c4b : decide (100 < q) = false := decide_eq_false c4
              have HN3 := Lib.hid (HN2.out (by rw [hbi, c1b, c2b, c3b, c4b]; rfl))
              clear hbi HHIT HN2
              go_wp2
              go_roundw
              case rel => exact ⟨k + 1, hlt, by go_num, HN3, HB⟩
              case measure => simp [intOf]; omega
    · obtain rfl : k = l.length := by omega
      have HF := Lib.hid (any_none fun j hj => HN.out j hj)
      have HR := Lib.hid (show acB l = decide ((l.length : Int) ≤ 500) by
        unfold acB
        rw [HF.out, Bool.eq_iff_iff]
        simp
        omega)
      go_wp2
      go_ret
      exact ⟨ret_bool HR.out.symm, HB.out⟩
/-- What a law takes. -/
def fineB (l : List (Int × Int)) (x : Int) : Bool := decide (l.length ≤ 60) && acB l && decide (0 ≤ x) && decide (x ≤ 1000000000)
set_option maxRecDepth 100000 in
theorem fine_any (v : Value) (l : List (Int × Int)) (x : Int) (w : World) (h : ConsAt w v l) : Calls Try.prog 16 #[v, .int .i64 x] w fun e w' => e = .returned (.bool (fineB l x)) ∧ Below w.heap.size w w' := by
  have HL := Lib.hid h
  obtain ⟨a, cap, rfl, -, hm, -⟩ := h
  unfold maxLen at hm
  by_cases h1 : l.length ≤ 60
  · have t1 : (l.length : Int) ≤ 60 := by omega
    have t1b : decide ((l.length : Int) ≤ 60) = true := decide_eq_true t1
    have HV := Lib.hid (valid_any _ l w HL.out)
    have HR := Lib.hid (show fineB l x = (acB l && decide (0 ≤ x) && decide (x ≤ 1000000000)) by unfold fineB; simp [h1])
    clear h1 hm HL
    obtain ⟨bb, hbb⟩ : ∃ z, acB l = z := ⟨_, rfl⟩
    rw [hbb] at HV HR
    clear hbb
    cases bb
    · go_enter Try.func16, Try.ntmps16
      go_wp2_with fail
      refine HV.out.mono ?_
      rintro e w1 ⟨rfl, b1⟩
      have HB1 := Lib.hid b1
      clear b1
      go_wp2
      go_ret
      exact ⟨ret_bool (by rw [HR.out]; simp), HB1.out⟩
    · by_cases h2 : 0 ≤ x
      · go_enter Try.func16, Try.ntmps16
        go_wp2_with fail
        refine HV.out.mono ?_
        rintro e w1 ⟨rfl, b1⟩
        have HB1 := Lib.hid b1
        clear b1
        go_wp2
        go_ret
        exact ⟨ret_bool (by rw [HR.out]; simp [h2]), HB1.out⟩
      · go_enter Try.func16, Try.ntmps16
        go_wp2_with fail
        refine HV.out.mono ?_
        rintro e w1 ⟨rfl, b1⟩
        have HB1 := Lib.hid b1
        clear b1
        go_wp2
        go_ret
        exact ⟨ret_bool (by rw [HR.out]; simp; omega), HB1.out⟩
  · have t1 : ¬ (l.length : Int) ≤ 60 := by omega
    have t1b : decide ((l.length : Int) ≤ 60) = false := decide_eq_false t1
    have HR := Lib.hid (show fineB l x = false by unfold fineB; simp [h1])
    clear h1
    go_enter Try.func16, Try.ntmps16
    go_wp2
    go_ret
    exact ⟨ret_bool HR.out.symm, Below.refl _ _⟩
def exL : List (Int × Int) := [(50, 1), (30, 5), (40, 5), (20, 0)]
theorem example_any (w : World) : Calls Try.prog 20 #[] w fun e w' => ∃ u, e = .returned u ∧ ConsAt w' u exL ∧ Below w.heap.size w w' := by
  have HC := Lib.hid (BoxN.new w #[.int .i64 50, .int .i64 1, .int .i64 30, .int .i64 5, .int .i64 40, .int .i64 5, .int .i64 20, .int .i64 0] 34 rfl)
  have HB := Lib.hid (al w (.cells #[.int .i64 50, .int .i64 1, .int .i64 30, .int .i64 5, .int .i64 40, .int .i64 5, .int .i64 20, .int .i64 0] 34))
  go_enter Try.func20, Try.ntmps20
  go_wp2
  go_ret
  refine ⟨_, rfl, ⟨some ⟨w.heap.size, 0, none⟩, 4, rfl, by decide, by decide, fun _ => ⟨w.heap.size, 0, rfl, fun i x hx => ?_⟩⟩, HB.out⟩
  have h0 := fun j => HC.out.cell j
  match i, hx with
  | 0, hx => cases hx; exact ⟨h0 0, h0 1⟩
  | 1, hx => cases hx; exact ⟨h0 2, h0 3⟩
  | 2, hx => cases hx; exact ⟨h0 4, h0 5⟩
  | 3, hx => cases hx; exact ⟨h0 6, h0 7⟩
  | n + 4, hx => simp [exL] at hx
end Go.Proofs.Ytpablikcidlkaaa
