/- The contract of 'Canonical'. -/
import Derived.Test.YtbmmmhjgidffpaaDoorC
namespace Go.Proofs.YtbmmmhjgidffpaaDoor
open Go.RowKit

/-- The unit of a canonical quantity, its tenths; what 'Canonical' gives. -/
def cK (d v : Int) : Nat := if v = 0 then bx d else gx d v
def cT (d v : Int) : Int := v.tdiv (tF (cK d v))
def nE (d v : Int) : Int := if bx d < 11 then (if inB v (-1000000000000000) 1000000000000000 && inB (cT d v) (-1000000000) 1000000000 then 0 else 11) else 1
def nT (d v : Int) : Int := if nE d v = 0 then cT d v else 0
def nS (d v : Int) : ByteArray := if nE d v = 0 then tN (cK d v) else ⟨#[]⟩

theorem bx_spec {d : Int} (h : bx d < 11) : tD (bx d) = d ∧ tF (bx d) = 1 := by
  unfold bx at h ⊢
  cases hf : (List.range 11).find? fun k => tD k == d && tF k == 1 with
  | none => rw [hf] at h; simp at h
  | some k => have := List.find?_some hf; simpa using this
theorem gx_le {d v : Int} (h : bx d < 11) : gx d v < 11 := by
  have h1 := bx_spec h
  unfold gx
  cases hf : (List.range 11).find? fun k => tD k == d && v.tmod (tF k) == 0 with
  | none =>
    have := List.find?_eq_none.1 hf (bx d) (by simpa using h)
    rw [h1.1, h1.2, Int.tmod_one] at this
    simp at this
  | some k => have := List.mem_of_find?_eq_some hf; simpa using this
theorem cK_lt {d v : Int} (h : bx d < 11) : cK d v < 11 := by unfold cK; split; exact h; exact gx_le h
theorem tdiv_le (v f : Int) (hf : 1 ≤ f) : (0 ≤ v → 0 ≤ v.tdiv f ∧ v.tdiv f ≤ v) ∧ (v < 0 → v ≤ v.tdiv f ∧ v.tdiv f ≤ 0) := by
  constructor
  · intro h
    rw [Int.tdiv_eq_ediv_of_nonneg h]
    exact ⟨Int.ediv_nonneg h (by omega), Int.ediv_le_self _ h⟩
  · intro h
    have h1 : v.tdiv f = -((-v) / f) := by rw [← Int.tdiv_eq_ediv_of_nonneg (by omega), Int.neg_tdiv, Int.neg_neg]
    have h2 := Int.ediv_le_self (a := -v) f (by omega)
    have h3 := Int.ediv_nonneg (a := -v) (b := f) (by omega) (by omega)
    omega
theorem tdiv_wrap (v f : Int) (hf : 1 ≤ f) (h1 : -9223372036854775808 ≤ v) (h2 : v ≤ 9223372036854775807) : wrap64 (v.tdiv f) = v.tdiv f :=
  IntWalk.wrap64_in _ (by have h := tdiv_le v f hf; by_cases h0 : 0 ≤ v; have := h.1 h0; constructor <;> omega; have := h.2 (by omega); constructor <;> omega)

/-- A number is one of 64 bits. -/
def I64 (v : Int) : Prop := -9223372036854775808 ≤ v ∧ v ≤ 9223372036854775807
theorem blA {w w1 : World} {o : Obj} (hb : Below (w.alloc o).heap.size (w.alloc o) w1) (x y : Value) (o2 : Obj) :
    Below w.heap.size w (((w1.setCell ⟨w.heap.size, 0, none⟩ x).setCell ⟨w.heap.size, 1, none⟩ y).alloc o2) :=
  (((bl1 hb).setCell (by simp) _).setCell (by simp) _).alloc (by have := bl1_lt hb; simp; omega) _
set_option maxRecDepth 100000 in
set_option maxHeartbeats 1000000 in
theorem canon_no (d v : Int) (w : World) (hT : Tab w) (h : ¬ bx d < 11) :
    Calls Tryd.prog 18 #[.int .i64 d, .int .i64 v] w fun e w' => e = .returned (.tuple #[.agg #[.int .i64 0, .string ⟨#[]⟩], .int .i64 1]) ∧ Below w.heap.size w w' := by
  have HT := Lib.hid hT
  have hd : decide (bx d < 11) = false := by simpa using h
  go_enter Tryd.func18, Tryd.ntmps18
  go_wp2_with (go_at_call 34; go_must (refine (base_any d _ (HT.out.alloc _)).mono ?_); rintro e w1 ⟨rfl, b1⟩; simp only [elt_def, hd]; obtain ⟨hc, hf⟩ := bcell b1; have hz := bl1_lt b1)
  exact bodyPost_ret (v := .tuple #[.agg #[.int .i64 0, .string ⟨#[]⟩], .int .i64 1]) (by simp [results, Tryd.results18, go_sem, hc, hz]) rfl ⟨rfl, blA b1 _ _ _⟩
set_option maxRecDepth 100000 in
set_option maxHeartbeats 1000000 in
theorem canon_zero (d : Int) (w : World) (hT : Tab w) (h : bx d < 11) :
    Calls Tryd.prog 18 #[.int .i64 d, .int .i64 0] w fun e w' => e = .returned (.tuple #[.agg #[.int .i64 0, .string (tN (bx d))], .int .i64 0]) ∧ Below w.heap.size w w' := by
  have HT := Lib.hid hT
  have hd : decide (bx d < 11) = true := by simpa using h
  have hF := Lib.hid (bx_spec h).2
  have HA := Lib.hid (show inB 0 (-1000000000000000) 1000000000000000 = true by decide)
  have HB := Lib.hid (show inB 0 (-1000000000) 1000000000 = true by decide)
  go_enter Tryd.func18, Tryd.ntmps18
  go_wp2_with (first | (go_at_call 34; go_must (refine (base_any d _ (HT.out.alloc _)).mono ?_); rintro e w1 ⟨rfl, b1⟩; simp only [elt_def, hd]; rw [hF.out]; obtain ⟨hc, hf⟩ := bcell b1; have hz := bl1_lt b1) | (go_at_call 30; go_must (refine (within_any _ _ _ _).mono ?_); rintro e w2 ⟨rfl, rfl⟩; first | rw [HA.out] | rw [HB.out]))
  exact bodyPost_ret (v := .tuple #[.agg #[.int .i64 0, .string (tN (bx d))], .int .i64 0]) (by simp [results, Tryd.results18, go_sem, hc, hz]) rfl ⟨rfl, blA b1 _ _ _⟩

theorem two_old2 {w w1 : World} {B n : Nat} {x y : Value} (hb : Below B w w1) (hn : n < B) (h0 : w.cell? ⟨n, 0, none⟩ = some x) (h1 : w.cell? ⟨n, 1, none⟩ = some y) (f0 : w.frozen? ⟨n, 0, none⟩ = false) (f1 : w.frozen? ⟨n, 1, none⟩ = false) :
    (w1.cell? ⟨n, 0, none⟩ = some x ∧ w1.frozen? ⟨n, 0, none⟩ = false) ∧ (w1.cell? ⟨n, 1, none⟩ = some y ∧ w1.frozen? ⟨n, 1, none⟩ = false) :=
  ⟨⟨(hb.cell (p := ⟨n, 0, none⟩) hn).trans h0, (hb.frozen (p := ⟨n, 0, none⟩) hn).trans f0⟩, ⟨(hb.cell (p := ⟨n, 1, none⟩) hn).trans h1, (hb.frozen (p := ⟨n, 1, none⟩) hn).trans f1⟩⟩
theorem blB {w w1 w2 : World} {o o2 : Obj} {a b c : Value} (hb : Below (w.alloc o).heap.size (w.alloc o) w1) (h2 : Below (w1.alloc o2).heap.size (w1.alloc o2) w2) (x y : Value) :
    Below w.heap.size w (((((w2.setCell ⟨w1.heap.size, 0, none⟩ a).setCell ⟨w1.heap.size, 1, none⟩ b).setCell ⟨w1.heap.size, 2, none⟩ c).setCell ⟨w.heap.size, 0, none⟩ x).setCell ⟨w.heap.size, 1, none⟩ y) := by
  have h1 := bl1_lt hb
  exact ((((((bl1 hb).trans ((bl1 h2).mono (by omega))).setCell (by simp; omega) _).setCell (by simp; omega) _).setCell (by simp; omega) _).setCell (by simp) _).setCell (by simp) _
theorem three_new {w w1 : World} {x y z : Value} {t : TypeId} (hb : Below (w.alloc (.cells #[x, y, z] t)).heap.size (w.alloc (.cells #[x, y, z] t)) w1) :
    (w1.cell? ⟨w.heap.size, 0, none⟩ = some x ∧ w1.frozen? ⟨w.heap.size, 0, none⟩ = false) ∧ (w1.cell? ⟨w.heap.size, 1, none⟩ = some y ∧ w1.frozen? ⟨w.heap.size, 1, none⟩ = false) ∧ (w1.cell? ⟨w.heap.size, 2, none⟩ = some z ∧ w1.frozen? ⟨w.heap.size, 2, none⟩ = false) :=
  ⟨⟨(three_cells hb).1, (hb.frozen (p := ⟨w.heap.size, 0, none⟩) (by simp)).trans (frozen_new _ _ _ _)⟩, ⟨(three_cells hb).2.1, (hb.frozen (p := ⟨w.heap.size, 1, none⟩) (by simp)).trans (frozen_new _ _ _ _)⟩, ⟨(three_cells hb).2.2, (hb.frozen (p := ⟨w.heap.size, 2, none⟩) (by simp)).trans (frozen_new _ _ _ _)⟩⟩
theorem two_new {w w1 : World} {x y : Value} {t : TypeId} (hb : Below (w.alloc (.cells #[x, y] t)).heap.size (w.alloc (.cells #[x, y] t)) w1) :
    (w1.cell? ⟨w.heap.size, 0, none⟩ = some x ∧ w1.frozen? ⟨w.heap.size, 0, none⟩ = false) ∧ (w1.cell? ⟨w.heap.size, 1, none⟩ = some y ∧ w1.frozen? ⟨w.heap.size, 1, none⟩ = false) := by
  have h := fun j => hb.cell (p := ⟨w.heap.size, j, none⟩) (by simp)
  have hc := fun (j : Nat) => cell_of_row (w.alloc (.cells #[x, y] t)) w.heap.size j #[x, y] t (0, 0) (heap_alloc_new _ _)
  have g := fun j => (hb.frozen (p := ⟨w.heap.size, j, none⟩) (by simp)).trans (frozen_new w #[x, y] t j)
  exact ⟨⟨(h 0).trans (hc 0), g 0⟩, ⟨(h 1).trans (hc 1), g 1⟩⟩
set_option maxRecDepth 100000 in
set_option maxHeartbeats 2000000 in
theorem canon_ok (d v : Int) (w : World) (hT : Tab w) (h : bx d < 11) (hv : v ≠ 0) (hi : I64 v) (HA : Hid (inB v (-1000000000000000) 1000000000000000 = true)) (HB : Hid (inB (v.tdiv (tF (gx d v))) (-1000000000) 1000000000 = true)) :
    Calls Tryd.prog 18 #[.int .i64 d, .int .i64 v] w fun e w' => e = .returned (.tuple #[.agg #[.int .i64 (v.tdiv (tF (gx d v))), .string (tN (gx d v))], .int .i64 0]) ∧ Below w.heap.size w w' := by
  have HT := Lib.hid hT
  have hp := hT.pos
  have hd : decide (bx d < 11) = true := by simpa using h
  have hg := gx_le (v := v) h
  have hd2 : decide (gx d v < 11) = true := by simpa using hg
  have hF := tF_pos _ hg
  obtain ⟨hF1, hF2⟩ := hF
  have hv1 : (v != 0) = true := by simpa using hv
  have hq := tdiv_wrap v (tF (gx d v)) hF1 hi.1 hi.2
  skip
  clear hi hv h hT hg
  go_enter Tryd.func18, Tryd.ntmps18
  go_wp2_with (first | (go_at_call 34; go_must (refine (base_any d _ (HT.out.alloc _)).mono ?_); rintro e w1 ⟨rfl, b1⟩; simp only [elt_def, hd]; have htw := two_new b1; obtain ⟨⟨c0, f0⟩, ⟨c1, f1⟩⟩ := htw; have hz := bl1_lt b1; have HT1 := Lib.hid (HT.out.below (bl1 b1) hp)) | (go_at_call 35; go_must (refine (greatest_any d v _ (HT1.out.alloc _)).mono ?_); rintro e w2 ⟨rfl, b2⟩; simp only [elt_def, hd2]; have hth := three_new b2; obtain ⟨⟨d0, g0⟩, ⟨d1, g1⟩, ⟨d2, g2⟩⟩ := hth; have hz2 := bl1_lt b2; have hold := two_old2 (bl1 b2) hz c0 c1 f0 f1; obtain ⟨⟨c0', f0'⟩, ⟨c1', f1'⟩⟩ := hold; clear c0 c1 f0 f1) | (go_at_call 30; go_must (refine (within_any _ _ _ _).mono ?_); rintro e w2 ⟨rfl, rfl⟩; first | rw [HA.out] | rw [HB.out]))
  exact bodyPost_ret (v := .tuple #[.agg #[.int .i64 (v.tdiv (tF (gx d v))), .string (tN (gx d v))], .int .i64 0]) (by simp [results, Tryd.results18, go_sem, c0', c1']) rfl ⟨rfl, blB b1 b2 _ _⟩
set_option maxRecDepth 100000 in
set_option maxHeartbeats 2000000 in
theorem canon_farA (d v : Int) (w : World) (hT : Tab w) (h : bx d < 11) (hv : v ≠ 0) (hi : I64 v) (HA : Hid (inB v (-1000000000000000) 1000000000000000 = false)) :
    Calls Tryd.prog 18 #[.int .i64 d, .int .i64 v] w fun e w' => e = .returned (.tuple #[.agg #[.int .i64 0, .string ⟨#[]⟩], .int .i64 11]) ∧ Below w.heap.size w w' := by
  have HT := Lib.hid hT
  have hp := hT.pos
  have hd : decide (bx d < 11) = true := by simpa using h
  have hg := gx_le (v := v) h
  have hd2 : decide (gx d v < 11) = true := by simpa using hg
  have hF := tF_pos _ hg
  obtain ⟨hF1, hF2⟩ := hF
  have hv1 : (v != 0) = true := by simpa using hv
  have hq := tdiv_wrap v (tF (gx d v)) hF1 hi.1 hi.2
  skip
  clear hi hv h hT hg
  go_enter Tryd.func18, Tryd.ntmps18
  go_wp2_with (first | (go_at_call 34; go_must (refine (base_any d _ (HT.out.alloc _)).mono ?_); rintro e w1 ⟨rfl, b1⟩; simp only [elt_def, hd]; have htw := two_new b1; obtain ⟨⟨c0, f0⟩, ⟨c1, f1⟩⟩ := htw; have hz := bl1_lt b1; have HT1 := Lib.hid (HT.out.below (bl1 b1) hp)) | (go_at_call 35; go_must (refine (greatest_any d v _ (HT1.out.alloc _)).mono ?_); rintro e w2 ⟨rfl, b2⟩; simp only [elt_def, hd2]; have hth := three_new b2; obtain ⟨⟨d0, g0⟩, ⟨d1, g1⟩, ⟨d2, g2⟩⟩ := hth; have hz2 := bl1_lt b2; have hold := two_old2 (bl1 b2) hz c0 c1 f0 f1; obtain ⟨⟨c0', f0'⟩, ⟨c1', f1'⟩⟩ := hold; clear c0 c1 f0 f1) | (go_at_call 30; go_must (refine (within_any _ _ _ _).mono ?_); rintro e w2 ⟨rfl, rfl⟩; rw [HA.out]))
  exact bodyPost_ret (v := .tuple #[.agg #[.int .i64 0, .string ⟨#[]⟩], .int .i64 11]) (by simp [results, Tryd.results18, go_sem, c0', c1']) rfl ⟨rfl, blB b1 b2 _ _⟩
set_option maxRecDepth 100000 in
set_option maxHeartbeats 2000000 in
theorem canon_farB (d v : Int) (w : World) (hT : Tab w) (h : bx d < 11) (hv : v ≠ 0) (hi : I64 v) (HA : Hid (inB v (-1000000000000000) 1000000000000000 = true)) (HB : Hid (inB (v.tdiv (tF (gx d v))) (-1000000000) 1000000000 = false)) :
    Calls Tryd.prog 18 #[.int .i64 d, .int .i64 v] w fun e w' => e = .returned (.tuple #[.agg #[.int .i64 0, .string ⟨#[]⟩], .int .i64 11]) ∧ Below w.heap.size w w' := by
  have HT := Lib.hid hT
  have hp := hT.pos
  have hd : decide (bx d < 11) = true := by simpa using h
  have hg := gx_le (v := v) h
  have hd2 : decide (gx d v < 11) = true := by simpa using hg
  have hF := tF_pos _ hg
  obtain ⟨hF1, hF2⟩ := hF
  have hv1 : (v != 0) = true := by simpa using hv
  have hq := tdiv_wrap v (tF (gx d v)) hF1 hi.1 hi.2
  skip
  clear hi hv h hT hg
  go_enter Tryd.func18, Tryd.ntmps18
  go_wp2_with (first | (go_at_call 34; go_must (refine (base_any d _ (HT.out.alloc _)).mono ?_); rintro e w1 ⟨rfl, b1⟩; simp only [elt_def, hd]; have htw := two_new b1; obtain ⟨⟨c0, f0⟩, ⟨c1, f1⟩⟩ := htw; have hz := bl1_lt b1; have HT1 := Lib.hid (HT.out.below (bl1 b1) hp)) | (go_at_call 35; go_must (refine (greatest_any d v _ (HT1.out.alloc _)).mono ?_); rintro e w2 ⟨rfl, b2⟩; simp only [elt_def, hd2]; have hth := three_new b2; obtain ⟨⟨d0, g0⟩, ⟨d1, g1⟩, ⟨d2, g2⟩⟩ := hth; have hz2 := bl1_lt b2; have hold := two_old2 (bl1 b2) hz c0 c1 f0 f1; obtain ⟨⟨c0', f0'⟩, ⟨c1', f1'⟩⟩ := hold; clear c0 c1 f0 f1) | (go_at_call 30; go_must (refine (within_any _ _ _ _).mono ?_); rintro e w2 ⟨rfl, rfl⟩; first | rw [HA.out] | rw [HB.out]))
  exact bodyPost_ret (v := .tuple #[.agg #[.int .i64 0, .string ⟨#[]⟩], .int .i64 11]) (by simp [results, Tryd.results18, go_sem, c0', c1']) rfl ⟨rfl, blB b1 b2 _ _⟩

theorem canon_any (d v : Int) (w : World) (hT : Tab w) (hi : I64 v) :
    Calls Tryd.prog 18 #[.int .i64 d, .int .i64 v] w fun e w' => e = .returned (.tuple #[.agg #[.int .i64 (nT d v), .string (nS d v)], .int .i64 (nE d v)]) ∧ Below w.heap.size w w' := by
  by_cases h : bx d < 11
  · by_cases hv : v = 0
    · subst hv
      have hE : nE d 0 = 0 := by
        have hT0 : cT d 0 = 0 := by simp [cT]
        have h1 : inB 0 (-1000000000000000) 1000000000000000 = true := by decide
        have h2 : inB 0 (-1000000000) 1000000000 = true := by decide
        simp [nE, h, hT0, h1, h2]
      have hT0 : nT d 0 = 0 := by simp [nT, cT]
      have hS : nS d 0 = tN (bx d) := by simp [nS, hE, cK]
      rw [hE, hT0, hS]
      exact canon_zero d w hT h
    · have hk : cK d v = gx d v := by unfold cK; rw [if_neg hv]
      have hc : cT d v = v.tdiv (tF (gx d v)) := by unfold cT; rw [hk]
      cases hA : inB v (-1000000000000000) 1000000000000000
      · have := canon_farA d v w hT h hv hi (Lib.hid hA)
        simpa [nT, nS, nE, h, hA] using this
      · cases hB : inB (v.tdiv (tF (gx d v))) (-1000000000) 1000000000
        · have := canon_farB d v w hT h hv hi (Lib.hid hA) (Lib.hid hB)
          simpa [nT, nS, nE, h, hA, hc, hB] using this
        · have := canon_ok d v w hT h hv hi (Lib.hid hA) (Lib.hid hB)
          simpa [nT, nS, nE, h, hA, hc, hB, hk] using this
  · have := canon_no d v w hT h
    simpa [nT, nS, nE, h] using this
end Go.Proofs.YtbmmmhjgidffpaaDoor
