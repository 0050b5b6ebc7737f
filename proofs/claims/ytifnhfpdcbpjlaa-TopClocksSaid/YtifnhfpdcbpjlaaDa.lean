/- Plain facts on what passes while a clock counts. -/
namespace Go.Proofs.Ytifnhfpdcbpjlaa
/-- The least and the greatest time that can pass. -/
def lo (s d : Int) : Int := (1000000 * s + (1000000 + d) - 1) / (1000000 + d)
def hi (s d : Int) : Int := 1000000 * s / (1000000 - d)
theorem lo_le {s d : Int} (_ : 0 ≤ s) (hd : 0 ≤ d) (t : Int) : lo s d ≤ t ↔ 1000000 * s ≤ (1000000 + d) * t := by
  unfold lo
  have hA : 0 < 1000000 + d := by omega
  have h1 : (1000000 * s + (1000000 + d) - 1) / (1000000 + d) ≤ t ↔ (1000000 * s + (1000000 + d) - 1) / (1000000 + d) < t + 1 := by omega
  rw [h1, Int.ediv_lt_iff_lt_mul hA, Int.add_mul, Int.one_mul, Int.mul_comm t]
  omega
theorem le_hi {s d : Int} (_ : 0 ≤ s) (hd : d ≤ 100000) (t : Int) : t ≤ hi s d ↔ (1000000 - d) * t ≤ 1000000 * s := by
  unfold hi
  have hA : 0 < 1000000 - d := by omega
  rw [Int.le_ediv_iff_mul_le hA, Int.mul_comm t]
theorem lo_nonneg {s d : Int} (hs : 0 ≤ s) (hd : 0 ≤ d) : 0 ≤ lo s d := by
  unfold lo
  exact Int.ediv_nonneg (by omega) (by omega)
theorem hi_nonneg {s d : Int} (hs : 0 ≤ s) (hd : d ≤ 100000) : 0 ≤ hi s d := (le_hi hs hd 0).2 (by omega)
theorem lo_self {s d : Int} (hs : 0 ≤ s) (hd : 0 ≤ d) : lo s d ≤ s := (lo_le hs hd s).2 (by rw [Int.add_mul]; have := Int.mul_nonneg hd hs; omega)
theorem self_hi {s d : Int} (hs : 0 ≤ s) (hd : d ≤ 100000) (h0 : 0 ≤ d) : s ≤ hi s d := (le_hi hs hd s).2 (by rw [Int.sub_mul]; have := Int.mul_nonneg h0 hs; omega)
theorem lo_bd {s d : Int} (hs : 0 ≤ s) (hd : 0 ≤ d) (h1 : s ≤ 1000000000) : lo s d ≤ 1000000000 := Int.le_trans (lo_self hs hd) h1
theorem hi_bd {s d : Int} (hs : 0 ≤ s) (hd : d ≤ 100000) (h0 : 0 ≤ d) (h1 : s ≤ 1000000000) : hi s d ≤ 1200000000 := by
  apply Classical.byContradiction; intro h
  have h2 := (le_hi hs hd 1200000000).1 (by omega)
  omega
/-- Without drift. -/
theorem lo_zero {s : Int} (hs : 0 ≤ s) : lo s 0 = s := by
  apply Int.le_antisymm (lo_self hs (Int.le_refl 0))
  have := (lo_le hs (Int.le_refl 0) (lo s 0)).1 (Int.le_refl _)
  omega
theorem hi_zero {s : Int} (hs : 0 ≤ s) : hi s 0 = s := by
  have h1 := self_hi hs (by omega) (Int.le_refl 0)
  have := (le_hi hs (by omega) (hi s 0)).1 (Int.le_refl _)
  omega
/-- Two parts. -/
theorem lo_add {x y d : Int} (hx : 0 ≤ x) (hy : 0 ≤ y) (hd : 0 ≤ d) : lo (x + y) d ≤ lo x d + lo y d := by
  rw [lo_le (by omega) hd]
  have h1 := (lo_le hx hd _).1 (Int.le_refl _)
  have h2 := (lo_le hy hd _).1 (Int.le_refl _)
  have h3 := Int.mul_add (1000000 + d) (lo x d) (lo y d)
  omega
theorem hi_add {x y d : Int} (hx : 0 ≤ x) (hy : 0 ≤ y) (hd : d ≤ 100000) : hi x d + hi y d ≤ hi (x + y) d := by
  rw [le_hi (by omega) hd]
  have h1 := (le_hi hx hd _).1 (Int.le_refl _)
  have h2 := (le_hi hy hd _).1 (Int.le_refl _)
  have h3 := Int.mul_add (1000000 - d) (hi x d) (hi y d)
  omega
/-- More drift. -/
theorem lo_more {x d e : Int} (hx : 0 ≤ x) (hd : 0 ≤ d) (h : d ≤ e) : lo x e ≤ lo x d := by
  rw [lo_le hx (by omega)]
  have h1 := (lo_le hx hd _).1 (Int.le_refl _)
  have h2 := Int.mul_le_mul_of_nonneg_right (show 1000000 + d ≤ 1000000 + e by omega) (lo_nonneg hx hd)
  omega
theorem hi_more {x d e : Int} (hx : 0 ≤ x) (he : e ≤ 100000) (h : d ≤ e) : hi x d ≤ hi x e := by
  rw [le_hi hx he]
  have h1 := (le_hi hx (show d ≤ 100000 by omega) _).1 (Int.le_refl _)
  have h2 := Int.mul_le_mul_of_nonneg_right (show 1000000 - e ≤ 1000000 - d by omega) (hi_nonneg hx (show d ≤ 100000 by omega))
  omega
end Go.Proofs.Ytifnhfpdcbpjlaa
