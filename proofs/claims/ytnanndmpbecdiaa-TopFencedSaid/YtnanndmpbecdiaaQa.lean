namespace Go.Proofs.Ytnanndmpbecdiaa
/-- The least and the greatest time that can pass. -/
def lo (s d : Int) : Int := (1000000 * s + (1000000 + d) - 1) / (1000000 + d)
def hi (s d : Int) : Int := 1000000 * s / (1000000 - d)
theorem lo_le {s d : Int} (_ : 0 ≤ s) (hd : 0 ≤ d) (t : Int) : lo s d ≤ t ↔ 1000000 * s ≤ (1000000 + d) * t := by
  unfold lo
  have hA : 0 < 1000000 + d := by omega
  have h1 : (1000000 * s + (1000000 + d) - 1) / (1000000 + d) ≤ t ↔ (1000000 * s + (1000000 + d) - 1) / (1000000 + d) < t + 1 := by omega
  rw [h1, Int.ediv_lt_iff_lt_mul hA, Int.add_mul, Int.one_mul, Int.mul_comm t]
  omega
theorem le_hi {s d : Int} (_ : 0 ≤ s) (hd : d ≤ 100000) (t : Int) : t ≤ hi s d ↔ (1000000 - d) * t ≤ 1000000 * s := by
  unfold hi
  have hA : 0 < 1000000 - d := by omega
  rw [Int.le_ediv_iff_mul_le hA, Int.mul_comm t]
theorem lo_nonneg {s d : Int} (hs : 0 ≤ s) (hd : 0 ≤ d) : 0 ≤ lo s d := by
  unfold lo
  exact Int.ediv_nonneg (by omega) (by omega)
theorem hi_nonneg {s d : Int} (hs : 0 ≤ s) (hd : d ≤ 100000) : 0 ≤ hi s d := (le_hi hs hd 0).2 (by omega)
theorem lo_self {s d : Int} (hs : 0 ≤ s) (hd : 0 ≤ d) : lo s d ≤ s := (lo_le hs hd s).2 (by rw [Int.add_mul]; have := Int.mul_nonneg hd hs; omega)
theorem lo_bd {s d : Int} (hs : 0 ≤ s) (hd : 0 ≤ d) (h1 : s ≤ 1000000000) : lo s d ≤ 1000000000 := Int.le_trans (lo_self hs hd) h1
theorem hi_bd {s d : Int} (hs : 0 ≤ s) (hd : d ≤ 100000) (h0 : 0 ≤ d) (h1 : s ≤ 1000000000) : hi s d ≤ 1200000000 := by
  apply Classical.byContradiction; intro h
  have h2 := (le_hi hs hd 1200000000).1 (by omega)
  omega
end Go.Proofs.Ytnanndmpbecdiaa
