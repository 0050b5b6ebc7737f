/- The window: 'isWindow' where it is none. -/
import Derived.Test.YtkamkkjijjkfdaaXf
import Derived.ChangeKeysEq
namespace Go.Proofs.Ytkamkkjijjkfdaa
open Go.RowKit

theorem infoBo : (Try.prog.info? 4).map (fun i => (i.zero, i.size, i.bytes)) = some (some (.bool false), 1, 1) := by kernel_rfl
/-- Two arrays of truth values compared. -/
theorem eq_items (xs ys : List Bool) (hx : xs.length = 16) (hy : ys.length = 16) (w : World) : ∀ is : List Nat, (∀ i ∈ is, i < 16) →
    (Op.eqItems 9999 4 (Try.prog.cellsOf 4) (xs.map Value.bool).toArray (ys.map Value.bool).toArray is).run Try.prog w = .ok (is.all fun i => xs.getD i false == ys.getD i false) w
  | [], _ => by simp [Op.eqItems]
  | i :: is, h => by
    have hi := h i (by simp)
    have hc : Try.prog.cellsOf 4 = 1 := by kernel_rfl
    have ih := eq_items xs ys hx hy w is (fun j hj => h j (by simp [hj]))
    have px : (part 4 (xs.map Value.bool).toArray (i * 1)).run Try.prog w = .ok (.bool (xs.getD i false)) w := run_part_plain w (by kernel_rfl) (by simp [show i < xs.length by omega])
    have py : (part 4 (ys.map Value.bool).toArray (i * 1)).run Try.prog w = .ok (.bool (ys.getD i false)) w := run_part_plain w (by kernel_rfl) (by simp [show i < ys.length by omega])
    rw [hc] at ih ⊢
    simp only [Op.eqItems, Sem.run_bind, px, py, Result.andThen_ok, run_equalIn_bool w 9998 4 _ _ Try.underlying4, List.all_cons]
    cases xs.getD i false == ys.getD i false
    · simp
    · simpa using ih
theorem eq_bools (xs ys : List Bool) (hx : xs.length = 16) (hy : ys.length = 16) (w : World) :
    (Op.equalIn 10000 88 (.agg (xs.map Value.bool).toArray) (.agg (ys.map Value.bool).toArray)).run Try.prog w = .ok ((List.range 16).all fun i => xs.getD i false == ys.getD i false) w := by
  obtain ⟨i0, hi, -⟩ := info_parts infoBo
  rw [run_equalIn_array w 9999 _ _ Try.underlying88 hi]
  exact eq_items xs ys hx hy w _ (fun i hi => List.mem_range.1 hi)
set_option maxRecDepth 100000 in
set_option maxHeartbeats 8000000 in
theorem isw_sixteen {t : Int} {L : List Bool} (a : Option Addr) (n c : Nat) (hn : L.length = n) (h : n ≠ 16) : IsW t a n c L false := by
  intro W hb
  have HB := Lib.hid (al W (.cells #[.int .i64 t, .slice a n c] 27))
  have HC := Lib.hid (Cs.new W W.heap.size #[.int .i64 t, .slice a n c] 27 rfl)
  have hm : n ≤ maxLen := by obtain ⟨a', c', hv, hm, -⟩ := hb; omega
  unfold maxLen at hm
  have g1 : ((n : Int) == 16) = false := by simp; omega
  have g2 : ((n : Int) != 16) = true := by simp; omega
  have g3 : ((n : Int) = 16) = False := by simp; omega
  have x0 := HC.out.c 0 rfl
  have x1 := HC.out.c 1 rfl
  have xz := HC.out.2.2
  clear h hn hb
  go_enter Try.func55, Try.ntmps55
  go_wp2
  go_ret
  exact ⟨rfl, HB.out⟩
set_option maxRecDepth 100000 in
set_option maxHeartbeats 8000000 in
theorem isw_low {t : Int} {L : List Bool} (a : Option Addr) (c : Nat) (h : t < -1) : IsW t a 16 c L false := by
  intro W hb
  have HB := Lib.hid (al W (.cells #[.int .i64 t, .slice a 16 c] 27))
  have HC := Lib.hid (Cs.new W W.heap.size #[.int .i64 t, .slice a 16 c] 27 rfl)
  have g1 : decide (t < -1) = true := by simp; omega
  have x0 := HC.out.c 0 rfl
  have x1 := HC.out.c 1 rfl
  have xz := HC.out.2.2
  clear hb
  go_enter Try.func55, Try.ntmps55
  go_wp2
  go_ret
  exact ⟨rfl, HB.out⟩
set_option maxRecDepth 100000 in
set_option maxHeartbeats 8000000 in
theorem isw_high {t : Int} {L : List Bool} (a : Option Addr) (c : Nat) (h : 1000000 < t) : IsW t a 16 c L false := by
  intro W hb
  have HB := Lib.hid (al W (.cells #[.int .i64 t, .slice a 16 c] 27))
  have HC := Lib.hid (Cs.new W W.heap.size #[.int .i64 t, .slice a 16 c] 27 rfl)
  have g1 : decide (t < -1) = false := by simp; omega
  have g2 : decide (1000000 < t) = true := by simp; omega
  have g3 : decide (t > 1000000) = true := by simp; omega
  have x0 := HC.out.c 0 rfl
  have x1 := HC.out.c 1 rfl
  have xz := HC.out.2.2
  clear hb
  go_enter Try.func55, Try.ntmps55
  go_wp2
  go_ret
  exact ⟨rfl, HB.out⟩
set_option maxRecDepth 100000 in
set_option maxHeartbeats 8000000 in
theorem isw_m1 {L : List Bool} (a : Option Addr) (c : Nat) (hl : L.length = 16) (_ : 16 ≤ c) (h : ((List.range 16).all fun i => L.getD i false == (List.replicate 16 false).getD i false) = false) : IsW (-1) a 16 c L false := by
  intro W hb
  have HB := Lib.hid (al W (.cells #[.int .i64 (-1), .slice a 16 c] 27))
  have HC := Lib.hid (Cs.new W W.heap.size #[.int .i64 (-1), .slice a 16 c] 27 rfl)
  obtain ⟨a', c', hv, hm, hcs⟩ := hb
  obtain ⟨rfl, -, rfl⟩ : a = a' ∧ 16 = L.length ∧ c = c' := by simpa using hv
  obtain ⟨b, off, rfl, hx⟩ := hcs (by intro e; rw [e] at hl; simp at hl)
  have y0 := keep1 HB.out (show W.cell? ⟨b, off + 0, none⟩ = some (.bool (L.getD 0 false)) from hx 0 _ (bo_get (by omega)))
  have y1 := keep1 HB.out (show W.cell? ⟨b, off + 1, none⟩ = some (.bool (L.getD 1 false)) from hx 1 _ (bo_get (by omega)))
  have y2 := keep1 HB.out (show W.cell? ⟨b, off + 2, none⟩ = some (.bool (L.getD 2 false)) from hx 2 _ (bo_get (by omega)))
  have y3 := keep1 HB.out (show W.cell? ⟨b, off + 3, none⟩ = some (.bool (L.getD 3 false)) from hx 3 _ (bo_get (by omega)))
  have y4 := keep1 HB.out (show W.cell? ⟨b, off + 4, none⟩ = some (.bool (L.getD 4 false)) from hx 4 _ (bo_get (by omega)))
  have y5 := keep1 HB.out (show W.cell? ⟨b, off + 5, none⟩ = some (.bool (L.getD 5 false)) from hx 5 _ (bo_get (by omega)))
  have y6 := keep1 HB.out (show W.cell? ⟨b, off + 6, none⟩ = some (.bool (L.getD 6 false)) from hx 6 _ (bo_get (by omega)))
  have y7 := keep1 HB.out (show W.cell? ⟨b, off + 7, none⟩ = some (.bool (L.getD 7 false)) from hx 7 _ (bo_get (by omega)))
  have y8 := keep1 HB.out (show W.cell? ⟨b, off + 8, none⟩ = some (.bool (L.getD 8 false)) from hx 8 _ (bo_get (by omega)))
  have y9 := keep1 HB.out (show W.cell? ⟨b, off + 9, none⟩ = some (.bool (L.getD 9 false)) from hx 9 _ (bo_get (by omega)))
  have y10 := keep1 HB.out (show W.cell? ⟨b, off + 10, none⟩ = some (.bool (L.getD 10 false)) from hx 10 _ (bo_get (by omega)))
  have y11 := keep1 HB.out (show W.cell? ⟨b, off + 11, none⟩ = some (.bool (L.getD 11 false)) from hx 11 _ (bo_get (by omega)))
  have y12 := keep1 HB.out (show W.cell? ⟨b, off + 12, none⟩ = some (.bool (L.getD 12 false)) from hx 12 _ (bo_get (by omega)))
  have y13 := keep1 HB.out (show W.cell? ⟨b, off + 13, none⟩ = some (.bool (L.getD 13 false)) from hx 13 _ (bo_get (by omega)))
  have y14 := keep1 HB.out (show W.cell? ⟨b, off + 14, none⟩ = some (.bool (L.getD 14 false)) from hx 14 _ (bo_get (by omega)))
  have y15 := keep1 HB.out (show W.cell? ⟨b, off + 15, none⟩ = some (.bool (L.getD 15 false)) from hx 15 _ (bo_get (by omega)))
  have heq : ∀ w, (Op.equalIn 10000 88 (.agg #[.bool (L.getD 0 false), .bool (L.getD 1 false), .bool (L.getD 2 false), .bool (L.getD 3 false), .bool (L.getD 4 false), .bool (L.getD 5 false), .bool (L.getD 6 false), .bool (L.getD 7 false), .bool (L.getD 8 false), .bool (L.getD 9 false), .bool (L.getD 10 false), .bool (L.getD 11 false), .bool (L.getD 12 false), .bool (L.getD 13 false), .bool (L.getD 14 false), .bool (L.getD 15 false)]) (.agg #[.bool false, .bool false, .bool false, .bool false, .bool false, .bool false, .bool false, .bool false, .bool false, .bool false, .bool false, .bool false, .bool false, .bool false, .bool false, .bool false])).run Try.prog w = .ok false w := fun w => by
    have := eq_bools L (List.replicate 16 false) hl (by simp) w
    rw [h] at this
    have e : (L.map Value.bool).toArray = #[.bool (L.getD 0 false), .bool (L.getD 1 false), .bool (L.getD 2 false), .bool (L.getD 3 false), .bool (L.getD 4 false), .bool (L.getD 5 false), .bool (L.getD 6 false), .bool (L.getD 7 false), .bool (L.getD 8 false), .bool (L.getD 9 false), .bool (L.getD 10 false), .bool (L.getD 11 false), .bool (L.getD 12 false), .bool (L.getD 13 false), .bool (L.getD 14 false), .bool (L.getD 15 false)] := by
      apply Array.toList_inj.1
      apply List.ext_getElem
      · simp [hl]
      · intro i h1 h2
        simp at h1 h2
        have hi : i < 16 := by omega
        match i, hi with
        | 0, _ => simp [show 0 < L.length by omega]
        | 1, _ => simp [show 1 < L.length by omega]
        | 2, _ => simp [show 2 < L.length by omega]
        | 3, _ => simp [show 3 < L.length by omega]
        | 4, _ => simp [show 4 < L.length by omega]
        | 5, _ => simp [show 5 < L.length by omega]
        | 6, _ => simp [show 6 < L.length by omega]
        | 7, _ => simp [show 7 < L.length by omega]
        | 8, _ => simp [show 8 < L.length by omega]
        | 9, _ => simp [show 9 < L.length by omega]
        | 10, _ => simp [show 10 < L.length by omega]
        | 11, _ => simp [show 11 < L.length by omega]
        | 12, _ => simp [show 12 < L.length by omega]
        | 13, _ => simp [show 13 < L.length by omega]
        | 14, _ => simp [show 14 < L.length by omega]
        | 15, _ => simp [show 15 < L.length by omega]
        | i + 16, h => exact absurd h (by omega)
    rw [e] at this
    exact this
  have hat : ∀ w, (Instr.arrayAt 88 (.slice (some ⟨b, off, none⟩) 16 c)).run Try.prog w = .ok (.pointer (some ⟨b, off, none⟩)) w := fun w => run_arrayAt w 88 _ 16 _ 16 c Try.underlying88 (Nat.le_refl _)
  generalize L.getD 0 false = b0 at *
  generalize L.getD 1 false = b1 at *
  generalize L.getD 2 false = b2 at *
  generalize L.getD 3 false = b3 at *
  generalize L.getD 4 false = b4 at *
  generalize L.getD 5 false = b5 at *
  generalize L.getD 6 false = b6 at *
  generalize L.getD 7 false = b7 at *
  generalize L.getD 8 false = b8 at *
  generalize L.getD 9 false = b9 at *
  generalize L.getD 10 false = b10 at *
  generalize L.getD 11 false = b11 at *
  generalize L.getD 12 false = b12 at *
  generalize L.getD 13 false = b13 at *
  generalize L.getD 14 false = b14 at *
  generalize L.getD 15 false = b15 at *
  have x0 := HC.out.c 0 rfl
  have x1 := HC.out.c 1 rfl
  have xz := HC.out.2.2
  simp only [Nat.add_zero] at *
  clear hx hcs hm hl h hv
  go_enter Try.func55, Try.ntmps55
  go_wp2
  go_ret
  exact ⟨rfl, HB.out⟩
theorem wf_no {t : Int} {L : List Bool} {n : Nat} (a : Option Addr) (c : Nat) (hn : L.length = n) (hc : n ≤ c) (h : ¬ WF t L) : IsW t a n c L false := by
  by_cases h16 : n = 16
  · subst h16
    by_cases h1 : t < -1
    · exact isw_low a c h1
    · by_cases h2 : 1000000 < t
      · exact isw_high a c h2
      · by_cases h3 : t = -1
        · subst h3
          refine isw_m1 a c hn hc ?_
          rw [Bool.eq_false_iff]
          intro hall
          rw [List.all_eq_true] at hall
          refine h ⟨hn, by omega, by omega, fun e => by omega, fun j _ => ?_⟩
          by_cases hj : j < 16
          · have := hall j (List.mem_range.2 hj)
            rw [show (List.replicate 16 false).getD j false = false by rw [List.getD_eq_getElem?_getD, List.getElem?_replicate]; split <;> rfl] at this
            exact eq_of_beq this
          · exact getD_none (by omega)
        · obtain ⟨m, rfl⟩ := Int.eq_ofNat_of_zero_le (show 0 ≤ t by omega)
          obtain ⟨k, rfl⟩ : ∃ k, c = k + 16 := ⟨c - 16, by omega⟩
          intro W hb
          have hw : wkB m L = false := by
            rw [Bool.eq_false_iff]
            intro hk
            unfold wkB at hk
            rw [Bool.and_eq_true, Bool.not_eq_true', List.any_eq_false] at hk
            refine h ⟨hn, by omega, by omega, fun _ => hk.1, fun j hj => ?_⟩
            by_cases hj2 : j < 16
            · have hmem : L.getD j false ∈ L.drop (min (m + 1) 16) := by
                rw [show L.getD j false = L[j]'(by omega) by simp [show j < L.length by omega]]
                have : L[j]'(by omega) = (L.drop (min (m + 1) 16))[j - min (m + 1) 16]'(by rw [List.length_drop]; omega) := by
                  rw [List.getElem_drop]
                  congr 1
                  omega
                rw [this]
                exact List.getElem_mem _
              have := hk.2 _ hmem
              simpa using this
            · exact getD_none (by omega)
          have h := isw_old m a k L W hb hn (by omega)
          rw [hw] at h
          exact h
  · exact isw_sixteen a n c hn h16
end Go.Proofs.Ytkamkkjijjkfdaa
