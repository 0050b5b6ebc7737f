/- The law 'BeliefCertain' (plain facts). -/
import Derived.Test.YtigpopemllamdaaCe
namespace Go.Proofs.Ytigpopemllamdaa
open Go.RowKit

def bS (p d : Int) : List Od := [⟨p, 0, -1, d⟩]
def cS (st : Int) (ds : List Int) (i : Nat) : List Od := ⟨-1, 0, -1, st⟩ :: (List.range i).map fun j : Nat => (⟨(j : Int), 0, 0, ds.getD j 0 % 16⟩ : Od)
theorem cS_succ (st : Int) (ds : List Int) (i : Nat) : cS st ds (i + 1) = cS st ds i ++ [⟨(i : Int), 0, 0, ds.getD i 0 % 16⟩] := by
  unfold cS; rw [List.range_succ, List.map_append]; rfl
theorem rvl_one {x : Od} (h : 0 ≤ x.d ∧ x.d < 16) : rvl [x] = [x.d] := by
  rw [← vof_rvl (fun o ho => by rw [show o = x by simpa using ho]; exact h), vof_one]
theorem bS_ok {p d : Int} (hp : -1 ≤ p ∧ p ≤ 1000000000) (hd : 0 ≤ d ∧ d < 16) : isW [d] (bS p d) = true := by
  have hs : stB ⟨p, 0, -1, d⟩ = true := stB_iff.2 rfl
  rw [isW_iff]
  have hf : flt (bS p d) = [] := by unfold flt bS; rw [List.filter_cons, if_neg (by rw [hs]; simp), List.filter_nil]
  refine ⟨by rw [hf]; simp, by simp [bS], ⟨_, by simp [bS], hs⟩, fun x hx => ?_, by rw [hf]; simp, by rw [hf]; simp, ?_⟩
  · obtain rfl : x = ⟨p, 0, -1, d⟩ := by simpa [bS] using hx
    exact okR_parts.2 ⟨hp, by simp, ⟨hd.1, show d ≤ 15 by omega⟩, by simp⟩
  · unfold bS; rw [rvl_one (x := ⟨p, 0, -1, d⟩) hd]
theorem rM_z (M : List Od) : rM 0 M = M := rM_W M rfl
theorem sd_zero {L : List Od} {o : Od} (h1 : isO o = true) (h2 : ∀ x ∈ L, x.a < o.a ∧ x.b ≤ o.b) (h3 : (flt L).length ≠ 8) (h4 : L.length ≠ 20) : sdE L o = 0 := by
  unfold sdE
  rw [if_neg, if_neg, if_neg]
  · simp [h3, h4]
  · simp only [List.any_eq_true, decide_eq_true_eq, not_exists, not_and]
    intro x hx; have := h2 x hx; omega
  · simp only [Bool.or_eq_true, not_or, h1, List.any_eq_true, decide_eq_true_eq, not_exists, not_and]
    refine ⟨by simp, fun x hx => ?_⟩
    have := h2 x hx; omega
theorem isO_mk {a b c d : Int} (ha : 0 ≤ a ∧ a ≤ 1000000000) (hb : 0 ≤ b ∧ b ≤ 1000000000) (hc : 0 ≤ c ∧ c ≤ 1000000000) (hd : 0 ≤ d ∧ d ≤ 15) : isO ⟨a, b, c, d⟩ = true := by
  unfold isO
  simp only [Bool.and_eq_true, inr_iff]
  exact ⟨⟨⟨ha, hb⟩, hc⟩, hd⟩
theorem cf_two {p d w : Int} : cfE (p + 1) (bS p w ++ [⟨p + 1, 0, 0, d⟩]) = 0 ∧ cfM (p + 1) (bS p w ++ [⟨p + 1, 0, 0, d⟩]) = bS (p + 1) d := by
  have h1 : cfP (p + 1) ⟨p, 0, -1, w⟩ = false := by unfold cfP stB; simp
  have h2 : cfP (p + 1) ⟨p + 1, 0, 0, d⟩ = true := by unfold cfP stB; simp
  have hf : fsI (cfP (p + 1)) (bS p w ++ [⟨p + 1, 0, 0, d⟩]) 0 = some 1 := by
    unfold bS
    simp only [List.cons_append, List.nil_append, fsI, h1, h2, if_true]
    rfl
  have hs : stB ⟨p, 0, -1, w⟩ = true := stB_iff.2 rfl
  refine ⟨by unfold cfE; rw [hf], ?_⟩
  unfold cfM
  rw [hf]
  show cfO _ 1 = _
  unfold cfO bS
  have ht : flt [(⟨p, 0, -1, w⟩ : Od)] = [] := by unfold flt; rw [List.filter_cons, if_neg (by rw [hs]; simp), List.filter_nil]
  simp [ht]
/-- What the loop keeps. -/
def CI (st : Int) (ds : List Int) (i : Nat) (want : Int) (V0 : List Int) (M0 : List Od) (Vc : List Int) (Mc : List Od) : Prop :=
  (0 ≤ want ∧ want < 16) ∧ V0 = [want] ∧ M0 = bS ((i : Int) - 1) want ∧ Mc = cS st ds i ∧ isW Vc Mc = true ∧ V0.length ≤ 300 ∧ M0.length ≤ 300 ∧ Vc.length ≤ 300 ∧ Mc.length ≤ 300
theorem isW_lens {V : List Int} {L : List Od} (h : isW V L = true) : V.length ≤ 300 ∧ L.length ≤ 300 := by
  have := isW_len h; exact ⟨by omega, by omega⟩
theorem CI.start {st : Int} {ds : List Int} (h : 0 ≤ st ∧ st < 16) : CI st ds 0 st [st] (bS (-1) st) [st] (bS (-1) st) := by
  have := bS_ok (p := -1) (by omega) h
  exact ⟨h, rfl, rfl, by unfold bS cS; simp, this, by simp, by simp [bS], by simp, by simp [bS]⟩
theorem cS_flt (st : Int) (ds : List Int) (i : Nat) : (flt (cS st ds i)).length ≤ i := by
  have hs : stB ⟨-1, 0, -1, st⟩ = true := stB_iff.2 rfl
  unfold flt cS
  rw [List.filter_cons, if_neg (by rw [hs]; simp)]
  refine Nat.le_trans (List.length_filter_le _ _) (by simp)
theorem cS_mem {st : Int} {ds : List Int} {i : Nat} {x : Od} (h : x ∈ cS st ds i) : (x.c = -1 → x.a = -1) ∧ x.a < i ∧ -1 ≤ x.a ∧ x.b = 0 := by
  unfold cS at h
  rcases List.mem_cons.1 h with rfl | h
  · exact ⟨fun _ => rfl, show (-1 : Int) < i by omega, show (-1 : Int) ≤ -1 by omega, rfl⟩
  · obtain ⟨j, hj, rfl⟩ := List.mem_map.1 h
    rw [List.mem_range] at hj
    exact ⟨fun h => by simp at h, show ((j : Int) < i) by omega, show (-1 : Int) ≤ j by omega, rfl⟩
/-- One round. -/
structure CR (st : Int) (ds : List Int) (i : Nat) (d : Int) (V0 : List Int) (M0 : List Od) (Vc : List Int) (Mc : List Od) (V1 : List Int) (M1 : List Od) (V2 : List Int) (M2 : List Od) (V3 : List Int) (M3 : List Od) : Prop where
  e1 : snE V0 M0 ⟨(i : Int), 0, 0, d⟩ = 0
  v1 : rV 0 (M0 ++ [⟨(i : Int), 0, 0, d⟩]) = V1
  m1 : rM 0 (M0 ++ [⟨(i : Int), 0, 0, d⟩]) = M1
  e2 : cnE V1 M1 (i : Int) = 0
  v2 : rV 0 (cfM (i : Int) M1) = V2
  m2 : rM 0 (cfM (i : Int) M1) = M2
  e3 : snE Vc Mc ⟨(i : Int), 0, 0, d⟩ = 0
  v3 : rV 0 (Mc ++ [⟨(i : Int), 0, 0, d⟩]) = V3
  m3 : rM 0 (Mc ++ [⟨(i : Int), 0, 0, d⟩]) = M3
  l1 : V1.length ≤ 300 ∧ M1.length ≤ 300
  ci : CI st ds (i + 1) d V2 M2 V3 M3
theorem CI.next {st : Int} {ds : List Int} {i : Nat} {want : Int} {V0 : List Int} {M0 : List Od} {Vc : List Int} {Mc : List Od} (h : CI st ds i want V0 M0 Vc Mc) (hi : i < 8) {d : Int} (hd : d = ds.getD i 0 % 16) :
    ∃ V1 M1 V2 M2 V3 M3, CR st ds i d V0 M0 Vc Mc V1 M1 V2 M2 V3 M3 := by
  obtain ⟨hw, rfl, rfl, rfl, hc, -, -, -, -⟩ := h
  have hd0 : 0 ≤ d ∧ d < 16 := by omega
  have hb := bS_ok (p := (i : Int) - 1) (d := want) (by omega) hw
  have ho : isO ⟨(i : Int), 0, 0, d⟩ = true := isO_mk (by omega) (by omega) (by omega) (by omega)
  have s1 : sdE (bS ((i : Int) - 1) want) ⟨(i : Int), 0, 0, d⟩ = 0 := by
    refine sd_zero ho (fun x hx => ?_) ?_ (by simp [bS])
    · obtain rfl : x = ⟨(i : Int) - 1, 0, -1, want⟩ := by simpa [bS] using hx
      exact ⟨show (i : Int) - 1 < i by omega, show (0 : Int) ≤ 0 by omega⟩
    · have h1 : (flt (bS ((i : Int) - 1) want)).length ≤ (bS ((i : Int) - 1) want).length := List.length_filter_le _ _
      have h2 : (bS ((i : Int) - 1) want).length = 1 := rfl
      omega
  have w1 := sent_ok hb s1
  rw [rM_z] at w1
  have hii : (i : Int) - 1 + 1 = i := by omega
  have c1 := cf_two (p := (i : Int) - 1) (d := d) (w := want)
  rw [hii] at c1
  have s3 : sdE (cS st ds i) ⟨(i : Int), 0, 0, d⟩ = 0 := by
    refine sd_zero ho (fun x hx => ?_) ?_ ?_
    · obtain ⟨-, h2, -, h4⟩ := cS_mem hx
      exact ⟨h2, by rw [h4]; exact Int.le_refl _⟩
    · have := cS_flt st ds i; omega
    · simp [cS]; omega
  have w3 := sent_ok hc s3
  rw [rM_z] at w3
  have hb2 := bS_ok (p := (i : Int)) (d := d) (by omega) hd0
  refine ⟨_, _, _, _, _, _, ⟨by rw [snE_W, if_pos hb]; exact s1, rfl, rM_z _, by rw [cnE_W, if_pos w1]; exact c1.1, rfl, rM_z _, by rw [snE_W, if_pos hc]; exact s3, rfl, rM_z _, isW_lens w1, ⟨hd0, ?_, ?_, ?_, w3, ?_, ?_, (isW_lens w3).1, (isW_lens w3).2⟩⟩⟩
  · rw [c1.2]; unfold rV; rw [if_pos rfl]; exact vof_one _
  · rw [c1.2]; congr 1; push_cast; omega
  · rw [cS_succ, ← hd]
  · rw [c1.2]; unfold rV; rw [if_pos rfl]; unfold bS; rw [vof_one]; simp
  · rw [c1.2]; simp [bS]
/-- Behind the loop: the report. -/
theorem CI.last {st : Int} {ds : List Int} {i : Nat} {want : Int} {V0 : List Int} {M0 : List Od} {Vc : List Int} {Mc : List Od} (h : CI st ds i want V0 M0 Vc Mc) (hi : i ≤ 8) {x : Int} (hx : x ∈ Vc) :
    rnE Vc Mc x ((i : Int) - 1) = 0 ∧ rV 0 (rpM Mc x ((i : Int) - 1)) = [x] := by
  obtain ⟨hw, rfl, rfl, rfl, hc, -, -, -, -⟩ := h
  have hr : rpE Vc (cS st ds i) x ((i : Int) - 1) = 0 := by
    unfold rpE
    rw [if_neg (by rw [inr_iff.2 (by omega)]; simp), if_neg]
    simp only [Bool.or_eq_true, not_or, Bool.not_eq_true', Bool.not_eq_false, List.any_eq_true, not_exists, not_and]
    refine ⟨by simpa using hx, fun y hy => ?_⟩
    obtain ⟨h1, h2⟩ := List.mem_filter.1 hy
    have h3 := (cS_mem h1).1 (stB_iff.1 h2)
    unfold rpT
    simp only [decide_eq_true_eq]
    omega
  refine ⟨by rw [rnE_W, if_pos hc]; exact hr, ?_⟩
  have hm : rpM (cS st ds i) x ((i : Int) - 1) = [⟨(i : Int) - 1, rpB ((i : Int) - 1) (cS st ds i), -1, x⟩] := by
    unfold rpM
    rw [List.filter_eq_nil_iff.2]
    intro y hy
    have := (cS_mem (flt_mem.1 hy).1).2.1
    unfold rpT
    simp only [decide_eq_true_eq]
    omega
  rw [hm]
  unfold rV
  rw [if_pos rfl]
  exact vof_one _
end Go.Proofs.Ytigpopemllamdaa
