/- What the lexer makes of digits. -/
import Derived.Test.YtaokedpcijmncaaDoorK
namespace Go.Proofs.YtaokedpcijmncaaDoor
open Go.RowKit Go.Maps

theorem rend_eq {s : ByteArray} {i j : Nat} {K : Int} (hij : i ≤ j) (h : ∀ k, i ≤ k → k < j → inK (kd s k) K = true) (hj : inK (kd s j) K = false) : rend s i K = j := by
  induction hd : j - i generalizing i with
  | zero =>
    obtain rfl : i = j := by omega
    exact rend_stop hj
  | succ n ih =>
    rw [rend_step (h i (Nat.le_refl _) (by omega))]
    exact ih (by omega) (fun k h1 h2 => h k (by omega) h2) (by omega)
theorem dig_kt : ∀ n : Fin 256, 48 ≤ n.val → n.val ≤ 57 → kt.getD n.val 0 = 2 := by decide +kernel
theorem dig_kb {c : UInt8} (h : 48 ≤ c.toNat ∧ c.toNat ≤ 57) : kb c = 2 := dig_kt ⟨c.toNat, c.toNat_lt⟩ h.1 h.2
theorem dig_kd {s : ByteArray} {i : Nat} (h : i < s.size) (hd : 48 ≤ s[i].toNat ∧ s[i].toNat ≤ 57) : kd s i = 2 := by unfold kd; rw [dif_pos h]; exact dig_kb hd
theorem inK_22 : inK 2 2 = true := by decide
theorem inK_216 : inK 2 16 = false := by decide
theorem inK_0 (K : Int) : inK 0 K = false := by unfold inK; rw [bits_and_zero]; rfl
theorem gap_none {s : ByteArray} {i : Nat} (h : inK (kd s i) 16 = false) (h2 : kd s i ≠ 32) : gap s i = i := by
  have hr : rend s i 16 = i := rend_stop h
  rw [gap_stop (by rw [hr]; exact h2), hr]
theorem gap_end {s : ByteArray} {i : Nat} (h : s.size ≤ i) : gap s i = i :=
  gap_none (by rw [kd_out (by omega)]; exact inK_0 16) (by rw [kd_out (by omega)]; decide)

/-- Nine digits at most, and at least one. -/
structure Dgs (t : ByteArray) (n : Nat) : Prop where
  lo : 1 ≤ t.size
  hi : t.size ≤ 9
  dig : ∀ (i : Nat) (h : i < t.size), 48 ≤ t[i].toNat ∧ t[i].toNat ≤ 57
  val : decs t = n
theorem ext_self (t : ByteArray) : t.extract 0 t.size = t := by simp

theorem digits_its (t : ByteArray) (n : Nat) (h : Dgs t n) : its t (gap t 0) = [⟨2, t, 10 * n, 0, 0⟩] := by
  have hk : ∀ i, i < t.size → kd t i = 2 := fun i hi => dig_kd hi (h.dig i hi)
  have h0 : kd t 0 = 2 := hk 0 h.lo
  have hg : gap t 0 = 0 := gap_none (by rw [h0]; decide) (by rw [h0]; decide)
  have hr : rend t 0 2 = t.size := rend_eq (Nat.zero_le _) (fun k _ hk2 => by rw [hk k hk2]; decide) (by rw [kd_out (by omega)]; exact inK_0 2)
  have hf : frac t t.size = false := by unfold frac; rw [dif_neg (by omega)]
  have hne : nend t 0 = t.size := by unfold nend; rw [hr, hf]; simp
  have hv : nval t 0 = 10 * n := by
    unfold nval
    rw [hr, hf, ext_self, h.val]
    simp
  have hi : item t 0 = ⟨2, t, 10 * n, 0, 0⟩ := by
    unfold item
    rw [if_neg (by rw [h0]; decide), if_pos h0, if_neg (by rw [hr, hne]; have := h.hi; omega), hne, hv, ext_self]
    simp
  rw [hg, its_go t 0 h.lo (by rw [hi]), hi]
  congr 1
  apply its_end
  have := gap_ge t (0 + t.size)
  show ¬ gap t (0 + t.size) < t.size
  omega

theorem get_app_l {a b : ByteArray} {i : Nat} (h : i < a.size) (h2 : i < (a ++ b).size) : (a ++ b)[i] = a[i] := by
  exact ByteArray.getElem_append_left h
theorem get_app_r {a b : ByteArray} {i : Nat} (h : a.size ≤ i) (h2 : i < (a ++ b).size) : (a ++ b)[i] = b[i - a.size]'(by simp at h2; omega) := by
  exact ByteArray.getElem_append_right h

/-- A dot. -/
def dotS : ByteArray := ⟨#[46]⟩
theorem frac_its (t c : ByteArray) (n d : Nat) (h : Dgs t n) (hc : Dgs c d) (hc1 : c.size = 1) : its (t ++ dotS ++ c) (gap (t ++ dotS ++ c) 0) = [⟨2, t ++ dotS ++ c, 10 * n + d, 0, 0⟩] := by
  have hsz : (t ++ dotS ++ c).size = t.size + 2 := by simp [ByteArray.size_append, hc1]; rfl
  have hd1 : dotS.size = 1 := rfl
  have hk : ∀ i, i < t.size → kd (t ++ dotS ++ c) i = 2 := fun i hi => by
    refine dig_kd (by omega) ?_
    rw [get_app_l (by simp [ByteArray.size_append]; omega), get_app_l hi]
    exact h.dig i hi
  have hkd : (t ++ dotS ++ c)[t.size]'(by omega) = 46 := by
    rw [get_app_l (by simp [ByteArray.size_append]; omega), get_app_r (Nat.le_refl _)]
    simp [dotS]; rfl
  have hkc : kd (t ++ dotS ++ c) (t.size + 1) = 2 := by
    refine dig_kd (by omega) ?_
    rw [get_app_r (by simp [ByteArray.size_append, hd1])]
    exact hc.dig _ (by simp [ByteArray.size_append, hd1]; omega)
  have h0 : kd (t ++ dotS ++ c) 0 = 2 := hk 0 h.lo
  have hg : gap (t ++ dotS ++ c) 0 = 0 := gap_none (by rw [h0]; decide) (by rw [h0]; decide)
  have hdk : kd (t ++ dotS ++ c) t.size = 8 := by unfold kd; rw [dif_pos (by omega), hkd]; decide
  have hr : rend (t ++ dotS ++ c) 0 2 = t.size := rend_eq (Nat.zero_le _) (fun k _ hk2 => by rw [hk k hk2]; decide) (by rw [hdk]; decide)
  have hr2 : rend (t ++ dotS ++ c) (t.size + 1) 2 = t.size + 2 := rend_eq (by omega) (fun k h1 h2 => by rw [show k = t.size + 1 by omega, hkc]; decide) (by rw [kd_out (by omega)]; exact inK_0 2)
  have hf : frac (t ++ dotS ++ c) t.size = true := by unfold frac; rw [dif_pos (by omega), hkd, hkc]; rfl
  have hne : nend (t ++ dotS ++ c) 0 = t.size + 2 := by unfold nend; rw [hr, hf, if_pos rfl, hr2]
  have he1 : (t ++ dotS ++ c).extract 0 t.size = t := by
    apply ByteArray.ext
    simp [ByteArray.data_append]
  have he2 : (t ++ dotS ++ c).extract (t.size + 1) (t.size + 2) = c := by
    apply ByteArray.ext
    simp [ByteArray.data_append]
    rw [Array.extract_empty_of_stop_le_start (by omega)]
    have h1 : c.data.size = 1 := hc1
    show #[] ++ (#[] ++ c.data.extract 0 1) = c.data
    rw [← h1]
    simp
  have hv : nval (t ++ dotS ++ c) 0 = 10 * n + d := by
    unfold nval
    rw [hr, hf, he1, h.val, hne, he2, hc.val]
    simp
  have hi : item (t ++ dotS ++ c) 0 = ⟨2, t ++ dotS ++ c, 10 * n + d, 0, 0⟩ := by
    unfold item
    rw [if_neg (by rw [h0]; decide), if_pos h0, if_neg (by rw [hr, hne]; have := h.hi; omega), hne, hv, ← hsz, ext_self]
    simp
  rw [hg, its_go _ 0 (by omega) (by rw [hi]), hi]
  congr 1
  apply its_end
  have := gap_ge (t ++ dotS ++ c) (0 + (t ++ dotS ++ c).size)
  show ¬ gap (t ++ dotS ++ c) (0 + (t ++ dotS ++ c).size) < (t ++ dotS ++ c).size
  omega

theorem digN_digs (f n : Nat) : ∀ c ∈ digN f n, 48 ≤ c.toNat ∧ c.toNat ≤ 57 := by
  induction f generalizing n with
  | zero => simp [digN]
  | succ f ih =>
    intro c hc
    unfold digN at hc
    rcases List.mem_append.1 hc with h | h
    · split at h
      · exact ih _ c h
      · simp at h
    · rw [List.mem_singleton] at h
      subst h
      rw [UInt8.toNat_ofNat']
      omega
theorem dec_digN (f n : Nat) (h : n < 10 ^ f) : dec (digN f n) = n := by
  induction f generalizing n with
  | zero => simp at h; subst h; rfl
  | succ f ih =>
    unfold digN
    rw [dec_snoc, UInt8.toNat_ofNat', show (48 + n % 10) % 2 ^ 8 - 48 = n % 10 by omega]
    split
    · rw [ih (n / 10) (by rw [Nat.pow_succ] at h; omega)]; omega
    · simp [dec]; omega
theorem digN_pos (f n : Nat) : 1 ≤ (digN (f + 1) n).length := by unfold digN; simp
theorem digS_Dgs (f n : Nat) (hf : f + 1 ≤ 9) (h : n < 10 ^ (f + 1)) : Dgs (digS (f + 1) n) n where
  lo := digN_pos f n
  hi := Nat.le_trans (digS_size (f + 1) n) hf
  dig := fun i hi => digN_digs (f + 1) n _ (by
    have : (digS (f + 1) n)[i] = (digN (f + 1) n)[i]'hi := rfl
    rw [this]; exact List.getElem_mem _)
  val := dec_digN (f + 1) n h
/-- A zero. -/
def zeroS : ByteArray := ⟨#[48]⟩
theorem zero_Dgs (t : ByteArray) (n : Nat) (h : Dgs t n) (h9 : t.size < 9) : Dgs (zeroS ++ t) n where
  lo := by simp [ByteArray.size_append]; have := h.lo; omega
  hi := by simp only [ByteArray.size_append]; have : zeroS.size = 1 := rfl; omega
  dig := fun i hi => by
    have h1 : zeroS.size = 1 := rfl
    by_cases h0 : i < zeroS.size
    · rw [get_app_l h0]
      obtain rfl : i = 0 := by omega
      show 48 ≤ (48 : UInt8).toNat ∧ (48 : UInt8).toNat ≤ 57
      decide
    · rw [get_app_r (by omega)]
      exact h.dig _ (by simp only [ByteArray.size_append] at hi; omega)
  val := by
    have : (zeroS ++ t).data.toList = 48 :: t.data.toList := by simp [zeroS]
    rw [← h.val]
    unfold decs
    rw [this]
    simp [dec]
end Go.Proofs.YtaokedpcijmncaaDoor
