/- Facts on sides and ways, as in Jp and Jq, without the walks. -/
import Derived.Test.YtoggmladiakblaaJo
namespace Go.Proofs.Ytoggmladiakblaa
open Go.RowKit

theorem vld_mine {s m o k : Int} {d : Bool} (h : vld s m o k d = true) : (m == pw 7 s) = true := by
  unfold vld at h; simp only [Bool.and_eq_true] at h; exact h.1
theorem vld_other {s m o k : Int} {d : Bool} (h : vld s m o k d = true) (ho : (o != 0) = true) : accB o = true := by
  unfold vld at h; simp only [Bool.and_eq_true, Bool.or_eq_true] at h
  rcases h.2.1 with h1 | h1
  · simp at ho h1; exact absurd h1 ho
  · exact h1
theorem vld_zero {s m o k : Int} (h : vld s m o k false = true) : k = 0 := by
  unfold vld at h; simp only [Bool.and_eq_true] at h; simpa using h.2.2
theorem acc_ne {y : Int} (h : accB y = true) : (y != 0) = true := by
  unfold accB at h; rw [decide_eq_true_iff] at h; simp; omega
theorem vld_met {s m y : Int} (h : (m == pw 7 s) = true) (hy : accB y = true) : vld s m y 0 false = true := by
  unfold vld; simp [h, hy]
theorem vld_done {s m y : Int} (h : (m == pw 7 s) = true) (hy : accB y = true) : vld s m y (pw y s) true = true := by
  unfold vld; rw [h, hy, acc_ne hy]; simp
theorem vld_new {b q : Int} (hq : pw 7 b = q) : vld b q 0 0 false = true := by subst hq; simp [vld]
theorem prf_meet {a b p q : Int} (c : Int) (hp : pw 7 a = p) (hq : pw 7 b = q) (mark : Int) : prf c b q p true mark = prf c a p q false mark := by
  have := pw_agree a b
  rw [hp, hq] at this
  unfold prf
  simp [this]
theorem prf_code {c c' : Int} (s m o : Int) (h : Bool) (mark : Int) (hc : c % 2147483647 ≠ c' % 2147483647) : (prf c s m o h mark == prf c' s m o h mark) = false := by
  have := (not_congr (Dg_replace [] [4, mark, if h then o else m, if h then m else o, pw o s] c c')).2 hc
  unfold prf
  simpa using this
theorem prf_mark (c s m o : Int) (h : Bool) : (prf c s m o h 1 == prf c s m o h 2) = false ∧ (prf c s m o h 2 == prf c s m o h 1) = false := by
  have h1 := (not_congr (Dg_replace [c, 4] [if h then o else m, if h then m else o, pw o s] 1 2)).2 (by decide)
  have h2 : ¬ prf c s m o h 1 = prf c s m o h 2 := by unfold prf; simpa using h1
  exact ⟨by simpa using h2, by simpa using fun e => h2 e.symm⟩
theorem meets {c b p q : Int} (hq : pw 7 b = q) (ha : accB p = true) : RW c b q 0 0 true false 1 p 0 0 (jc c b q p 0 true false) (hc3 2 q (prf c b q p true 1)) := .meet (vld_new hq) rfl rfl rfl ha
theorem meetsNo {c b p q : Int} (hq : pw 7 b = q) (ha : accB p = false) : RW c b q 0 0 true false 1 p 0 1 zj zh := .meetNo (vld_new hq) rfl rfl rfl ha
theorem pw_same {a b p q : Int} (hp : pw 7 a = p) (hq : pw 7 b = q) : pw p b = pw q a := by rw [← hp, ← hq]; exact pw_agree a b
theorem acc_nz {y : Int} (h : accB y = true) : (y != 0) = true := acc_ne h
end Go.Proofs.Ytoggmladiakblaa
