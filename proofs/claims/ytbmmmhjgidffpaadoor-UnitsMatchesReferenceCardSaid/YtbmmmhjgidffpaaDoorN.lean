/- Plain facts: canonical quantities, sums, seconds, energies. -/
import Derived.Test.YtbmmmhjgidffpaaDoorM
import Derived.Test.YtbmmmhjgidffpaaDoorF
namespace Go.Proofs.YtbmmmhjgidffpaaDoor
open Go.RowKit

theorem ux_tN (k : Nat) (h : k < 11) : ux (tN k) = k := (show ∀ k : Nat, k < 11 → ux (tN k) = k by decide) k h
theorem gx_spec {d v : Int} (h : gx d v < 11) : tD (gx d v) = d ∧ v.tmod (tF (gx d v)) = 0 := by
  unfold gx at h ⊢
  cases hf : (List.range 11).find? fun k => tD k == d && v.tmod (tF k) == 0 with
  | none => rw [hf] at h; simp at h
  | some k => have := List.find?_some hf; simpa using this
theorem cK_spec {d v : Int} (h : bx d < 11) : tD (cK d v) = d ∧ v.tmod (tF (cK d v)) = 0 := by
  unfold cK
  split
  · rename_i h0; subst h0; exact ⟨(bx_spec h).1, by simp⟩
  · exact gx_spec (gx_le h)
theorem nE_zero {d v : Int} (h : nE d v = 0) : bx d < 11 ∧ inB v (-1000000000000000) 1000000000000000 = true ∧ inB (cT d v) (-1000000000) 1000000000 = true := by
  unfold nE at h
  split at h
  · rename_i hb
    split at h
    · rename_i hc
      rw [Bool.and_eq_true] at hc
      exact ⟨hb, hc.1, hc.2⟩
    · omega
  · omega
/-- A canonical quantity has its value. -/
theorem canon_base {d v : Int} (h : nE d v = 0) : bE (nT d v) (nS d v) = 0 ∧ bD (nT d v) (nS d v) = d ∧ bV (nT d v) (nS d v) = v := by
  obtain ⟨hb, h1, h2⟩ := nE_zero h
  have hk := cK_lt (v := v) hb
  have hs := cK_spec (v := v) hb
  have hT : nT d v = cT d v := by unfold nT; rw [if_pos h]
  have hS : nS d v = tN (cK d v) := by unfold nS; rw [if_pos h]
  have hu : ux (nS d v) = cK d v := by rw [hS, ux_tN _ hk]
  have hE : bE (nT d v) (nS d v) = 0 := by unfold bE; rw [hu, hT]; simp [hk, h2]
  refine ⟨hE, ?_, ?_⟩
  · unfold bD; rw [if_pos hE, hu, hs.1]
  · unfold bV
    rw [if_pos hE, hu, hT]
    unfold cT
    have := Int.tmod_add_tdiv_mul v (tF (cK d v))
    rw [hs.2] at this
    omega
theorem nT_no {d v : Int} (h : nE d v ≠ 0) : nT d v = 0 ∧ nS d v = ⟨#[]⟩ := by unfold nT nS; rw [if_neg h, if_neg h]; exact ⟨rfl, rfl⟩
theorem dE_zero {t1 : Int} {s1 : ByteArray} {t2 : Int} {s2 : ByteArray} (h : dE t1 s1 t2 s2 = 0) : pE t1 s1 t2 s2 = 0 ∧ nE (bD t1 s1) (bV t1 s1 + bV t2 s2) = 0 ∧ dT t1 s1 t2 s2 = nT (bD t1 s1) (bV t1 s1 + bV t2 s2) ∧ dS t1 s1 t2 s2 = nS (bD t1 s1) (bV t1 s1 + bV t2 s2) := by
  unfold dE at h
  split at h
  · rename_i hp
    exact ⟨hp, h, by unfold dT; rw [if_pos hp], by unfold dS; rw [if_pos hp]⟩
  · exact absurd h ‹_›
theorem dE_no {t1 : Int} {s1 : ByteArray} {t2 : Int} {s2 : ByteArray} (h : dE t1 s1 t2 s2 ≠ 0) : dT t1 s1 t2 s2 = 0 ∧ dS t1 s1 t2 s2 = ⟨#[]⟩ := by
  unfold dE at h
  split at h
  · rename_i hp
    have := nT_no h
    unfold dT dS
    rw [if_pos hp, if_pos hp]
    exact this
  · rename_i hp
    unfold dT dS
    rw [if_neg hp, if_neg hp]
    exact ⟨rfl, rfl⟩
theorem pE_comm {t1 : Int} {s1 : ByteArray} {t2 : Int} {s2 : ByteArray} : pE t1 s1 t2 s2 = 0 ↔ pE t2 s2 t1 s1 = 0 := by
  rw [pE_zero, pE_zero]; exact ⟨fun ⟨a, b, c⟩ => ⟨b, a, c.symm⟩, fun ⟨a, b, c⟩ => ⟨b, a, c.symm⟩⟩
theorem d_comm {t1 : Int} {s1 : ByteArray} {t2 : Int} {s2 : ByteArray} (h : pE t1 s1 t2 s2 = 0) : dE t2 s2 t1 s1 = dE t1 s1 t2 s2 ∧ dT t2 s2 t1 s1 = dT t1 s1 t2 s2 ∧ dS t2 s2 t1 s1 = dS t1 s1 t2 s2 := by
  have h2 := pE_comm.1 h
  have hd := (pE_zero.1 h).2.2
  unfold dE dT dS
  rw [if_pos h, if_pos h, if_pos h, if_pos h2, if_pos h2, if_pos h2, hd, Int.add_comm (bV t2 s2)]
  exact ⟨rfl, rfl, rfl⟩
theorem dE_comm_no {t1 : Int} {s1 : ByteArray} {t2 : Int} {s2 : ByteArray} (h : dE t1 s1 t2 s2 ≠ 0) : dE t2 s2 t1 s1 ≠ 0 := by
  by_cases hp : pE t1 s1 t2 s2 = 0
  · rw [(d_comm hp).1]; exact h
  · intro h2; exact hp (pE_comm.2 (dE_zero h2).1)
theorem dE_comm_yes {t1 : Int} {s1 : ByteArray} {t2 : Int} {s2 : ByteArray} (h : dE t1 s1 t2 s2 = 0) : dE t2 s2 t1 s1 = 0 ∧ dT t2 s2 t1 s1 = dT t1 s1 t2 s2 ∧ dS t2 s2 t1 s1 = dS t1 s1 t2 s2 := by
  have := d_comm (dE_zero h).1
  exact ⟨this.1.trans h, this.2⟩
/-- A sum's base. -/
theorem sum_base {t1 : Int} {s1 : ByteArray} {t2 : Int} {s2 : ByteArray} (h : dE t1 s1 t2 s2 = 0) : bE (dT t1 s1 t2 s2) (dS t1 s1 t2 s2) = 0 ∧ bD (dT t1 s1 t2 s2) (dS t1 s1 t2 s2) = bD t1 s1 ∧ bV (dT t1 s1 t2 s2) (dS t1 s1 t2 s2) = bV t1 s1 + bV t2 s2 := by
  obtain ⟨_, h1, h2, h3⟩ := dE_zero h
  rw [h2, h3]
  exact canon_base h1
theorem sums_assoc {t1 : Int} {s1 : ByteArray} {t2 : Int} {s2 : ByteArray} {t3 : Int} {s3 : ByteArray} (h : dE t1 s1 t2 s2 = 0) (g : dE t2 s2 t3 s3 = 0)
    (h1 : dE (dT t1 s1 t2 s2) (dS t1 s1 t2 s2) t3 s3 = 0) (h2 : dE t1 s1 (dT t2 s2 t3 s3) (dS t2 s2 t3 s3) = 0) :
    dT (dT t1 s1 t2 s2) (dS t1 s1 t2 s2) t3 s3 = dT t1 s1 (dT t2 s2 t3 s3) (dS t2 s2 t3 s3) ∧ dS (dT t1 s1 t2 s2) (dS t1 s1 t2 s2) t3 s3 = dS t1 s1 (dT t2 s2 t3 s3) (dS t2 s2 t3 s3) := by
  obtain ⟨_, _, a1, a2⟩ := dE_zero h1
  obtain ⟨_, _, b1, b2⟩ := dE_zero h2
  have c := sum_base h
  have d := sum_base g
  rw [a1, a2, b1, b2, c.2.1, c.2.2, d.2.2, Int.add_assoc]
  exact ⟨rfl, rfl⟩
theorem sums_order {t1 : Int} {s1 : ByteArray} {t2 : Int} {s2 : ByteArray} {t3 : Int} {s3 : ByteArray} (h : dE t1 s1 t2 s2 = 0) (g : dE t2 s2 t3 s3 = 0) (k : dE t1 s1 t3 s3 = 0) :
    pE (dT t1 s1 t3 s3) (dS t1 s1 t3 s3) (dT t2 s2 t3 s3) (dS t2 s2 t3 s3) = 0 ∧ cV (dT t1 s1 t3 s3) (dS t1 s1 t3 s3) (dT t2 s2 t3 s3) (dS t2 s2 t3 s3) = cV t1 s1 t2 s2 := by
  have c := sum_base k
  have d := sum_base g
  have hp := (dE_zero h).1
  have hd := (pE_zero.1 hp).2.2
  have h0 : pE (dT t1 s1 t3 s3) (dS t1 s1 t3 s3) (dT t2 s2 t3 s3) (dS t2 s2 t3 s3) = 0 := pE_zero.2 ⟨c.1, d.1, by rw [c.2.1, d.2.1, hd]⟩
  refine ⟨h0, ?_⟩
  rw [cV_ok h0, cV_ok hp, c.2.2, d.2.2]
  unfold cmp
  simp only [Int.add_lt_add_iff_right]

/-! Seconds -/
theorem sE_zero {t : Int} {s : ByteArray} (h : sE t s = 0) : bE t s = 0 ∧ bD t s = 3 ∧ (bV t s).tmod 10 = 0 ∧ sV t s = (bV t s).tdiv 10 := by
  have hv : sV t s = (bV t s).tdiv 10 := by unfold sV; rw [if_pos h]
  unfold sE at h
  split at h
  · split at h
    · split at h
      · exact ⟨‹_›, ‹_›, ‹_›, hv⟩
      · omega
    · omega
  · exact absurd h ‹_›
theorem sE_mk {t : Int} {s : ByteArray} (h1 : bE t s = 0) (h2 : bD t s = 3) (h3 : (bV t s).tmod 10 = 0) : sE t s = 0 ∧ sV t s = (bV t s).tdiv 10 := by
  have : sE t s = 0 := by unfold sE; rw [if_pos h1, if_pos h2, if_pos h3]
  exact ⟨this, by unfold sV; rw [if_pos this]⟩
theorem ten (x : Int) : (10 * x).tmod 10 = 0 ∧ (10 * x).tdiv 10 = x := by
  constructor
  · exact Int.mul_tmod_right 10 x
  · rw [Int.mul_comm]; exact Int.mul_tdiv_cancel x (by omega)
theorem ten_of {v : Int} (h : v.tmod 10 = 0) : v = 10 * v.tdiv 10 := by
  have := Int.tmod_add_tdiv_mul v 10
  omega
theorem seconds_sum {t1 : Int} {s1 : ByteArray} {t2 : Int} {s2 : ByteArray} (h1 : sE t1 s1 = 0) (h2 : sE t2 s2 = 0) (h : dE t1 s1 t2 s2 = 0) :
    sE (dT t1 s1 t2 s2) (dS t1 s1 t2 s2) = 0 ∧ sV (dT t1 s1 t2 s2) (dS t1 s1 t2 s2) = sV t1 s1 + sV t2 s2 := by
  obtain ⟨a1, a2, a3, a4⟩ := sE_zero h1
  obtain ⟨b1, b2, b3, b4⟩ := sE_zero h2
  have c := sum_base h
  have e1 := ten_of a3
  have e2 := ten_of b3
  have e : bV (dT t1 s1 t2 s2) (dS t1 s1 t2 s2) = 10 * ((bV t1 s1).tdiv 10 + (bV t2 s2).tdiv 10) := by rw [c.2.2]; omega
  have := sE_mk c.1 (c.2.1.trans a2) (by rw [e]; exact (ten _).1)
  refine ⟨this.1, ?_⟩
  rw [this.2, e, (ten _).2, a4, b4]
/-- The base of a number of tenths of a unit of the table. -/
theorem base_of (k : Nat) (hk : k < 11) (t : Int) (h1 : -1000000000 ≤ t) (h2 : t ≤ 1000000000) : bE t (tN k) = 0 ∧ bD t (tN k) = tD k ∧ bV t (tN k) = t * tF k := by
  have hE : bE t (tN k) = 0 := by
    have : inB t (-1000000000) 1000000000 = true := by unfold inB; simp [h1, h2]
    unfold bE; rw [ux_tN k hk]; simp [hk, this]
  refine ⟨hE, ?_, ?_⟩
  · unfold bD; rw [if_pos hE, ux_tN k hk]
  · unfold bV; rw [if_pos hE, ux_tN k hk]
theorem sec_of (k : Nat) (hk : k < 11) (hd : tD k = 3) (x : Int) (h1 : -100000000 ≤ x) (h2 : x ≤ 100000000) : sE (10 * x) (tN k) = 0 ∧ sV (10 * x) (tN k) = x * tF k := by
  have hb := base_of k hk (10 * x) (by omega) (by omega)
  have e : bV (10 * x) (tN k) = 10 * (x * tF k) := by rw [hb.2.2, Int.mul_assoc]
  have := sE_mk hb.1 (hb.2.1.trans hd) (by rw [e]; exact (ten _).1)
  exact ⟨this.1, by rw [this.2, e, (ten _).2]⟩
end Go.Proofs.YtbmmmhjgidffpaaDoor
