/- Plain facts on quantities. -/
import Derived.Test.YtbmmmhjgidffpaaDoorE
namespace Go.Proofs.YtbmmmhjgidffpaaDoor
open Go.RowKit

theorem aE_zero {t1 : Int} {s1 : ByteArray} {t2 : Int} {s2 : ByteArray} : aE t1 s1 t2 s2 = 0 ↔ bE t1 s1 = 0 ∧ bE t2 s2 = 0 := by
  unfold aE
  split
  · simp_all
  · simp_all
theorem pE_zero {t1 : Int} {s1 : ByteArray} {t2 : Int} {s2 : ByteArray} : pE t1 s1 t2 s2 = 0 ↔ bE t1 s1 = 0 ∧ bE t2 s2 = 0 ∧ bD t1 s1 = bD t2 s2 := by
  constructor
  · intro h
    have := both_pE0 h
    exact ⟨(aE_zero.1 this.1).1, (aE_zero.1 this.1).2, this.2⟩
  · intro ⟨h1, h2, h3⟩
    unfold pE
    rw [if_pos (aE_zero.2 ⟨h1, h2⟩), if_pos h3]
theorem pE_type {t1 : Int} {s1 : ByteArray} {t2 : Int} {s2 : ByteArray} (h1 : bE t1 s1 = 0) (h2 : bE t2 s2 = 0) (h3 : bD t1 s1 ≠ bD t2 s2) : pE t1 s1 t2 s2 = 10 := by
  unfold pE
  rw [if_pos (aE_zero.2 ⟨h1, h2⟩), if_neg h3]
theorem cmp_cases (x y : Int) : (x < y ∧ cmp x y = -1 ∧ cmp y x = 1) ∨ (x = y ∧ cmp x y = 0 ∧ cmp y x = 0) ∨ (y < x ∧ cmp x y = 1 ∧ cmp y x = -1) := by
  unfold cmp
  rcases Int.lt_trichotomy x y with h | h | h
  · exact .inl ⟨h, by rw [if_pos h], by rw [if_neg (by omega), if_pos h]⟩
  · subst h; exact .inr (.inl ⟨rfl, by simp, by simp⟩)
  · exact .inr (.inr ⟨h, by rw [if_neg (by omega), if_pos h], by rw [if_pos h]⟩)
theorem cV_ok {t1 : Int} {s1 : ByteArray} {t2 : Int} {s2 : ByteArray} (h : pE t1 s1 t2 s2 = 0) : cV t1 s1 t2 s2 = cmp (bV t1 s1) (bV t2 s2) := by unfold cV; rw [if_pos h]

/-- What 'UnitsOrder' meets. -/
def OrderCases (e f g h a b c d m n i k v w : Int) : Prop :=
  (i ≠ 0 ∧ e ≠ 0 ∧ f ≠ 0) ∨ (i = 0 ∧ k ≠ 0 ∧ e ≠ 0 ∧ f ≠ 0) ∨ (i = 0 ∧ k = 0 ∧ m ≠ n ∧ e = 10 ∧ f = 10) ∨
  (i = 0 ∧ k = 0 ∧ m = n ∧ e = 0 ∧ f = 0 ∧ ((a = -1 ∧ b = 1 ∧ v < w) ∨ (a = 0 ∧ b = 0 ∧ v = w) ∨ (a = 1 ∧ b = -1 ∧ w < v)) ∧
    (g ≠ 0 ∨ (g = 0 ∧ h = 0 ∧ ((c = -1 ∨ c = 0 ∨ c = 1) ∧ (a = 1 ∨ c = 1 ∨ d = -1 ∨ (d = 0 ∧ a = 0 ∧ c = 0))))))
theorem order_cases (t1 : Int) (s1 : ByteArray) (t2 : Int) (s2 : ByteArray) (t3 : Int) (s3 : ByteArray) :
    OrderCases (pE t1 s1 t2 s2) (pE t2 s2 t1 s1) (pE t2 s2 t3 s3) (pE t1 s1 t3 s3) (cV t1 s1 t2 s2) (cV t2 s2 t1 s1) (cV t2 s2 t3 s3) (cV t1 s1 t3 s3) (bD t1 s1) (bD t2 s2) (bE t1 s1) (bE t2 s2) (bV t1 s1) (bV t2 s2) := by
  unfold OrderCases
  by_cases h1 : bE t1 s1 = 0
  · by_cases h2 : bE t2 s2 = 0
    · by_cases hd : bD t1 s1 = bD t2 s2
      · refine .inr (.inr (.inr ?_))
        have e0 := pE_zero.2 ⟨h1, h2, hd⟩
        have f0 := pE_zero.2 ⟨h2, h1, hd.symm⟩
        refine ⟨h1, h2, hd, e0, f0, ?_, ?_⟩
        · rw [cV_ok e0, cV_ok f0]
          rcases cmp_cases (bV t1 s1) (bV t2 s2) with ⟨x, y, z⟩ | ⟨x, y, z⟩ | ⟨x, y, z⟩
          · exact .inl ⟨y, z, x⟩
          · exact .inr (.inl ⟨y, z, x⟩)
          · exact .inr (.inr ⟨y, z, x⟩)
        · by_cases hg : pE t2 s2 t3 s3 = 0
          · have hh : pE t1 s1 t3 s3 = 0 := by
              have := pE_zero.1 hg
              exact pE_zero.2 ⟨h1, this.2.1, hd.trans this.2.2⟩
            refine .inr ⟨hg, hh, ?_⟩
            rw [cV_ok e0, cV_ok hg, cV_ok hh]
            have q1 := cmp_cases (bV t1 s1) (bV t2 s2)
            have q2 := cmp_cases (bV t2 s2) (bV t3 s3)
            have q3 := cmp_cases (bV t1 s1) (bV t3 s3)
            omega
          · exact .inl hg
      · exact .inr (.inr (.inl ⟨h1, h2, hd, pE_type h1 h2 hd, pE_type h2 h1 (Ne.symm hd)⟩))
    · exact .inr (.inl ⟨h1, h2, fun h => h2 (pE_zero.1 h).2.1, fun h => h2 (pE_zero.1 h).1⟩)
  · exact .inl ⟨h1, fun h => h1 (pE_zero.1 h).1, fun h => h1 (pE_zero.1 h).2.1⟩
end Go.Proofs.YtbmmmhjgidffpaaDoor
