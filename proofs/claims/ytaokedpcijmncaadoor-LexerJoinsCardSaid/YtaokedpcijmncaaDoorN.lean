/- The lexer's functions over lists of bytes. -/
import Derived.Test.YtaokedpcijmncaaDoorL
namespace Go.Proofs.YtaokedpcijmncaaDoor
open Go.RowKit Go.Maps

/-- The bytes of a text from an offset on. -/
def sfx (s : ByteArray) (i : Nat) : List UInt8 := s.data.toList.drop i
theorem sfx_len (s : ByteArray) (i : Nat) : (sfx s i).length = s.size - i := by
  have h0 : s.data.size = s.size := rfl
  simp [sfx]
theorem sfx_cons {s : ByteArray} {i : Nat} (h : i < s.size) : sfx s i = s[i] :: sfx s (i + 1) := drop_kd h
theorem sfx_nil {s : ByteArray} {i : Nat} (h : s.size ≤ i) : sfx s i = [] := List.eq_nil_of_length_eq_zero (by rw [sfx_len]; omega)
theorem sfx_drop (s : ByteArray) (i n : Nat) : (sfx s i).drop n = sfx s (i + n) := by simp [sfx, List.drop_drop]
theorem sfx_extract (s : ByteArray) (i n : Nat) : (s.extract i (i + n)).data.toList = (sfx s i).take n := by
  simp [sfx]
/-- The kind of the first byte. -/
def hk : List UInt8 → Int
  | [] => 0
  | c :: _ => kb c
theorem hk_sfx (s : ByteArray) (i : Nat) : hk (sfx s i) = kd s i := by
  by_cases h : i < s.size
  · rw [sfx_cons h]; unfold kd; rw [dif_pos h]; rfl
  · rw [sfx_nil (by omega), kd_out h]; rfl
/-- How many bytes of some kinds a list begins with. -/
def run (K : Int) : List UInt8 → Nat
  | [] => 0
  | c :: l => if inK (kb c) K then run K l + 1 else 0
theorem run_sfx (s : ByteArray) (i : Nat) (K : Int) : rend s i K = i + run K (sfx s i) := by
  induction hn : s.size - i generalizing i with
  | zero => rw [sfx_nil (by omega), rend_out (by omega)]; rfl
  | succ n ih =>
    have hi : i < s.size := by omega
    rw [sfx_cons hi, run]
    have hkd : kd s i = kb s[i] := by unfold kd; rw [dif_pos hi]
    by_cases h : inK (kb s[i]) K = true
    · rw [if_pos h, rend_step (by rw [hkd]; exact h), ih (i + 1) (by omega)]; omega
    · rw [if_neg h, rend_stop (by rw [hkd]; simpa using h)]; rfl
theorem run_le (K : Int) (l : List UInt8) : run K l ≤ l.length := by
  induction l with
  | nil => exact Nat.le_refl _
  | cons c l ih => unfold run; split <;> simp <;> omega

/-- How many bytes of gaps a list begins with; whether a comment is open. -/
def gapF : Bool → List UInt8 → Nat
  | _, [] => 0
  | false, c :: l => if kb c = 16 then gapF false l + 1 else if kb c = 32 then gapF true l + 1 else 0
  | true, c :: l => gapF (c != 10) l + 1
theorem gapF_le (b : Bool) (l : List UInt8) : gapF b l ≤ l.length := by
  induction l generalizing b with
  | nil => cases b <;> exact Nat.le_refl _
  | cons c l ih =>
    cases b
    · have h1 := ih false; have h2 := ih true; unfold gapF; split <;> (try split) <;> simp <;> omega
    · have h := ih (c != 10); unfold gapF; simp; omega
theorem kt_16 : ∀ n : Fin 256, inK (kt.getD n.val 0) 16 = decide (kt.getD n.val 0 = 16) := by decide +kernel
theorem kb_16 (c : UInt8) : inK (kb c) 16 = decide (kb c = 16) := kt_16 ⟨c.toNat, c.toNat_lt⟩
/-- A run of spaces, then what follows. -/
theorem gapF_run (l : List UInt8) : gapF false l = run 16 l + gapF false (l.drop (run 16 l)) := by
  induction l with
  | nil => rfl
  | cons c l ih =>
    by_cases h : kb c = 16
    · have h2 : inK (kb c) 16 = true := by rw [kb_16]; simpa using h
      rw [gapF, if_pos h, run, if_pos h2, ih]; simp; omega
    · have h2 : ¬ inK (kb c) 16 = true := by rw [kb_16]; simpa using h
      rw [run, if_neg h2]; simp
theorem gapF_stop (l : List UInt8) (h : hk l ≠ 16) (h2 : hk l ≠ 32) : gapF false l = 0 := by
  cases l with
  | nil => rfl
  | cons c l => rw [gapF, if_neg (show ¬ kb c = 16 from h), if_neg (show ¬ kb c = 32 from h2)]
theorem run_head (K : Int) (l : List UInt8) : inK (hk (l.drop (run K l))) K = false := by
  induction l with
  | nil => exact inK_0 K
  | cons c l ih =>
    unfold run
    split
    · simpa using ih
    · rename_i h; simpa [hk] using h
/-- The rest of a comment. -/
theorem gapF_true (l : List UInt8) : gapF true l = if Lib.indexByte l 10 < 0 then l.length else (Lib.indexByte l 10).toNat + gapF false (l.drop (Lib.indexByte l 10).toNat) := by
  induction l with
  | nil => rfl
  | cons c l ih =>
    rw [gapF, Lib.indexByte]
    have hb := indexByte_bd l 10
    by_cases h : c = 10
    · subst h
      have hk10 : kb 10 = 16 := by decide
      have e1 : ((10 : UInt8) == 10) = true := rfl
      have e2 : ((10 : UInt8) != 10) = false := rfl
      rw [e1, e2]
      simp [gapF, hk10]
    · have h1 : (c == 10) = false := by simpa using h
      have h2 : (c != 10) = true := by simpa using h
      rw [h1, h2, ih]
      simp only [Bool.false_eq_true, if_false]
      by_cases h3 : Lib.indexByte l 10 = -1
      · rw [h3]; simp
      · have h4 : (Lib.indexByte l 10 == -1) = false := by simpa using h3
        rw [h4]
        simp only [Bool.false_eq_true, if_false]
        rw [if_neg (by omega), if_neg (by omega), show (Lib.indexByte l 10 + 1).toNat = (Lib.indexByte l 10).toNat + 1 by omega]
        simp; omega
theorem lend_sfx (s : ByteArray) (j : Nat) : lend s j = if Lib.indexByte (sfx s j) 10 < 0 then s.size else j + (Lib.indexByte (sfx s j) 10).toNat := rfl
theorem gap_sfx (s : ByteArray) (i : Nat) (hi : i ≤ s.size) : gap s i = i + gapF false (sfx s i) := by
  induction hn : s.size - i using Nat.strongRecOn generalizing i with
  | _ n ih =>
    rw [gapF_run]
    have hr := run_sfx s i 16
    have hle := rend_le s i 16 hi
    rw [sfx_drop, ← hr]
    by_cases h : kd s (rend s i 16) = 32
    · have h1 := lend_gt s _ h
      have h2 := rend_ge s i 16
      have h3 := kd_lt (i := rend s i 16) (s := s) (by omega)
      have h4 := lend_le s _ hle
      rw [gap_step h, ih (s.size - lend s (rend s i 16)) (by omega) _ h4 rfl]
      have hg : gapF false (sfx s (rend s i 16)) = gapF true (sfx s (rend s i 16)) := by
        rw [sfx_cons h3]
        have hkb : kb s[rend s i 16] = 32 := by unfold kd at h; rw [dif_pos h3] at h; exact h
        have hne : s[rend s i 16] ≠ 10 := by intro e; rw [e] at hkb; revert hkb; decide
        rw [gapF, if_neg (by rw [hkb]; decide), if_pos hkb, gapF, show (s[rend s i 16] != 10) = true by simpa using hne]
      rw [hg, gapF_true]
      have hl := lend_sfx s (rend s i 16)
      by_cases hx : Lib.indexByte (sfx s (rend s i 16)) 10 < 0
      · rw [if_pos hx] at hl ⊢
        rw [hl, sfx_nil (Nat.le_refl _), sfx_len]
        simp [gapF]; omega
      · rw [if_neg hx] at hl ⊢
        rw [sfx_drop, ← hl, hl]
        rw [← hl]; omega
    · rw [gap_stop h, gapF_stop]
      · omega
      · rw [hk_sfx]
        have := run_head 16 (sfx s i)
        rw [sfx_drop, ← hr, hk_sfx] at this
        intro e; rw [e] at this; revert this; decide
      · rw [hk_sfx]; exact h
end Go.Proofs.YtaokedpcijmncaaDoor
