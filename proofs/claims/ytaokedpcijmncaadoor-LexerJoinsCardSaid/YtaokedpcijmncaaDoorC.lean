/- The contract of the scanner of numbers. -/
import Derived.Test.YtaokedpcijmncaaDoorB
namespace Go.Proofs.YtaokedpcijmncaaDoor
open Go.RowKit

/-- At most nine digits. -/
def Dg (t : ByteArray) : Prop := t.size ≤ 9 ∧ digs t.data.toList
/-- The value of the digits of a text. -/
def decs (t : ByteArray) : Nat := dec t.data.toList
theorem dec_any (t : ByteArray) (w : World) (h : Dg t) :
    Calls Tryd.prog 28 #[.string t] w fun e w' => e = .returned (.int .i64 (decs t)) ∧ w = w' := decimal_any t w h.1 h.2
theorem kt_dig : ∀ n : Fin 256, inK (kt.getD n.val 0) 2 = true → 48 ≤ n.val ∧ n.val ≤ 57 := by decide +kernel
theorem kb_dig {c : UInt8} (h : inK (kb c) 2 = true) : 48 ≤ c.toNat ∧ c.toNat ≤ 57 := kt_dig ⟨c.toNat, c.toNat_lt⟩ h
theorem rend_all {s : ByteArray} {K : Int} {i : Nat} : ∀ j, i ≤ j → j < rend s i K → inK (kd s j) K = true := by
  unfold rend
  generalize s.size - i = n
  induction n generalizing i with
  | zero => intro j h1 h2; rw [rendN] at h2; omega
  | succ n ih =>
    intro j h1 h2
    rw [rendN] at h2
    split at h2
    · rename_i h
      by_cases e : j = i
      · subst e; exact h
      · exact ih j (by omega) h2
    · omega
theorem extract_digs (s : ByteArray) (i j : Nat) (h : ∀ k, i ≤ k → k < j → inK (kd s k) 2 = true) : digs (s.extract i j).data.toList := by
  intro c hc
  simp at hc
  obtain ⟨k, hk, rfl⟩ := List.getElem_of_mem hc
  have hk2 : k < j - i ∧ k < s.size - i := by
    have h0 : s.data.size = s.size := rfl
    simp at hk; omega
  have := h (i + k) (by omega) (by omega)
  unfold kd at this
  rw [dif_pos (by omega)] at this
  have h3 := kb_dig this
  simp only [List.getElem_take, List.getElem_drop, Array.getElem_toList]
  exact h3
theorem rend_Dg (s : ByteArray) (i : Nat) (h : rend s i 2 - i ≤ 9) : Dg (s.extract i (rend s i 2)) :=
  ⟨by rw [ByteArray.size_extract]; omega, extract_digs s i _ (fun k h1 h2 => rend_all k h1 h2)⟩
/-- A fraction begins at an offset. -/
def frac (s : ByteArray) (d : Nat) : Bool := if h : d < s.size then ((s[d].toNat : Int) == 46) && (kd s (d + 1) == 2) else false
/-- The end of a number. -/
def nend (s : ByteArray) (i : Nat) : Nat := if frac s (rend s i 2) then rend s (rend s i 2 + 1) 2 else rend s i 2
def nbad (s : ByteArray) (i : Nat) : Prop := rend s i 2 - i > 9 ∨ nend s i - rend s i 2 > 2
def nval (s : ByteArray) (i : Nat) : Nat := 10 * decs (s.extract i (rend s i 2)) + if frac s (rend s i 2) then decs (s.extract (rend s i 2 + 1) (nend s i)) else 0

theorem tn (j : Nat) : ((j : Int) + 1).toNat = j + 1 := by omega
theorem decs_Dg {t : ByteArray} (h : Dg t) : decs t < 1000000000 := by
  have h1 := dec_lt _ h.2
  have h2 := Nat.pow_le_pow_right (n := 10) (by omega) (show t.data.toList.length ≤ 9 from h.1)
  exact Nat.lt_of_lt_of_le h1 h2
set_option maxHeartbeats 1000000 in
/-- The digits end the text. -/
theorem num_1 (s : ByteArray) (i j : Nat) (w : World) (_hs : s.size < 2 ^ 63 - 1) (HT : Hid (Tab w)) (h1 : i ≤ j) (HJ : Hid (rend s i 2 = j)) (h3 : ¬ j < s.size) (h4 : j ≤ s.size) (hn1 : j - i ≤ 9) (HA : Hid (Dg (s.extract i j))) :
    Calls Tryd.prog 23 #[.string s, .int .i64 i] w fun e w' => e = .returned (.tuple #[tokv 2 (s.extract i j) (10 * decs (s.extract i j)) i, .int .i64 0]) ∧ Below w.heap.size w w' := by
  have hd := decs_Dg HA.out
  have hr : rend s i 2 = j := HJ.out
  go_enter Tryd.func23, Tryd.ntmps23
  go_wp2_with (first | (go_at_call 25; go_must (refine (runEnd_any s _ 2 _ (by unfold maxLen; omega) (by omega) (HT.out.alloc _)).mono ?_); rintro e w' ⟨rfl, rfl⟩; simp only [Int.toNat_natCast])
                     | (go_at_call 28; go_must (refine (dec_any _ _ (by exact HA.out)).mono ?_); rintro e w' ⟨rfl, rfl⟩))
  exact bodyPost_ret (v := .tuple #[tokv 2 (s.extract i j) (10 * decs (s.extract i j)) i, .int .i64 0]) (by simp [results, Tryd.results23, go_sem, tokv]) rfl ⟨rfl, (Below.refl _ _).alloc (Nat.le_refl _) _⟩
set_option maxHeartbeats 1000000 in
/-- The digits end the text. -/
theorem nume_1 (s : ByteArray) (i j : Nat) (w : World) (_hs : s.size < 2 ^ 63 - 1) (HT : Hid (Tab w)) (h1 : i ≤ j) (HJ : Hid (rend s i 2 = j)) (h3 : ¬ j < s.size) (h4 : j ≤ s.size) (hn1 : j - i > 9) :
    Calls Tryd.prog 23 #[.string s, .int .i64 i] w fun e w' => e = .returned (.tuple #[tokv 0 ⟨#[]⟩ 0 0, .int .i64 4]) ∧ Below w.heap.size w w' := by
  have hr : rend s i 2 = j := HJ.out
  go_enter Tryd.func23, Tryd.ntmps23
  go_wp2_with (first | (go_at_call 25; go_must (refine (runEnd_any s _ 2 _ (by unfold maxLen; omega) (by omega) (HT.out.alloc _)).mono ?_); rintro e w' ⟨rfl, rfl⟩; simp only [Int.toNat_natCast]))
  exact bodyPost_ret (v := .tuple #[tokv 0 ⟨#[]⟩ 0 0, .int .i64 4]) (by simp [results, Tryd.results23, go_sem, tokv]) rfl ⟨rfl, (Below.refl _ _).alloc (Nat.le_refl _) _⟩
set_option maxHeartbeats 1000000 in
/-- No dot behind the digits. -/
theorem num_2 (s : ByteArray) (i j : Nat) (w : World) (_hs : s.size < 2 ^ 63 - 1) (HT : Hid (Tab w)) (h1 : i ≤ j) (HJ : Hid (rend s i 2 = j)) (h3 : j < s.size) (h5 : ((s[j].toNat : Int) == 46) = false) (hn1 : j - i ≤ 9) (HA : Hid (Dg (s.extract i j))) :
    Calls Tryd.prog 23 #[.string s, .int .i64 i] w fun e w' => e = .returned (.tuple #[tokv 2 (s.extract i j) (10 * decs (s.extract i j)) i, .int .i64 0]) ∧ Below w.heap.size w w' := by
  have hd := decs_Dg HA.out
  have hr : rend s i 2 = j := HJ.out
  go_enter Tryd.func23, Tryd.ntmps23
  go_wp2_with (first | (go_at_call 25; go_must (refine (runEnd_any s _ 2 _ (by unfold maxLen; omega) (by omega) (HT.out.alloc _)).mono ?_); rintro e w' ⟨rfl, rfl⟩; simp only [Int.toNat_natCast])
                     | (go_at_call 28; go_must (refine (dec_any _ _ (by exact HA.out)).mono ?_); rintro e w' ⟨rfl, rfl⟩))
  exact bodyPost_ret (v := .tuple #[tokv 2 (s.extract i j) (10 * decs (s.extract i j)) i, .int .i64 0]) (by simp [results, Tryd.results23, go_sem, tokv]) rfl ⟨rfl, (Below.refl _ _).alloc (Nat.le_refl _) _⟩
set_option maxHeartbeats 1000000 in
/-- No dot behind the digits. -/
theorem nume_2 (s : ByteArray) (i j : Nat) (w : World) (_hs : s.size < 2 ^ 63 - 1) (HT : Hid (Tab w)) (h1 : i ≤ j) (HJ : Hid (rend s i 2 = j)) (h3 : j < s.size) (h5 : ((s[j].toNat : Int) == 46) = false) (hn1 : j - i > 9) :
    Calls Tryd.prog 23 #[.string s, .int .i64 i] w fun e w' => e = .returned (.tuple #[tokv 0 ⟨#[]⟩ 0 0, .int .i64 4]) ∧ Below w.heap.size w w' := by
  have hr : rend s i 2 = j := HJ.out
  go_enter Tryd.func23, Tryd.ntmps23
  go_wp2_with (first | (go_at_call 25; go_must (refine (runEnd_any s _ 2 _ (by unfold maxLen; omega) (by omega) (HT.out.alloc _)).mono ?_); rintro e w' ⟨rfl, rfl⟩; simp only [Int.toNat_natCast]))
  exact bodyPost_ret (v := .tuple #[tokv 0 ⟨#[]⟩ 0 0, .int .i64 4]) (by simp [results, Tryd.results23, go_sem, tokv]) rfl ⟨rfl, (Below.refl _ _).alloc (Nat.le_refl _) _⟩
set_option maxHeartbeats 1000000 in
/-- No digit behind the dot. -/
theorem num_3 (s : ByteArray) (i j : Nat) (w : World) (_hs : s.size < 2 ^ 63 - 1) (HT : Hid (Tab w)) (h1 : i ≤ j) (HJ : Hid (rend s i 2 = j)) (h3 : j < s.size) (h5 : ((s[j].toNat : Int) == 46) = true) (h6 : (kd s (j + 1) == 2) = false) (hn1 : j - i ≤ 9) (HA : Hid (Dg (s.extract i j))) :
    Calls Tryd.prog 23 #[.string s, .int .i64 i] w fun e w' => e = .returned (.tuple #[tokv 2 (s.extract i j) (10 * decs (s.extract i j)) i, .int .i64 0]) ∧ Below w.heap.size w w' := by
  have hd := decs_Dg HA.out
  have hr : rend s i 2 = j := HJ.out
  go_enter Tryd.func23, Tryd.ntmps23
  go_wp2_with (first | (go_at_call 25; go_must (refine (runEnd_any s _ 2 _ (by unfold maxLen; omega) (by omega) (HT.out.alloc _)).mono ?_); rintro e w' ⟨rfl, rfl⟩; simp only [Int.toNat_natCast])
                     | (go_at_call 26; go_must (refine (kindAt_any s _ _ (by unfold maxLen; omega) (by omega) (HT.out.alloc _)).mono ?_); rintro e w' ⟨rfl, rfl⟩; simp only [tn])
                     | (go_at_call 28; go_must (refine (dec_any _ _ (by exact HA.out)).mono ?_); rintro e w' ⟨rfl, rfl⟩))
  exact bodyPost_ret (v := .tuple #[tokv 2 (s.extract i j) (10 * decs (s.extract i j)) i, .int .i64 0]) (by simp [results, Tryd.results23, go_sem, tokv]) rfl ⟨rfl, (Below.refl _ _).alloc (Nat.le_refl _) _⟩
set_option maxHeartbeats 1000000 in
/-- No digit behind the dot. -/
theorem nume_3 (s : ByteArray) (i j : Nat) (w : World) (_hs : s.size < 2 ^ 63 - 1) (HT : Hid (Tab w)) (h1 : i ≤ j) (HJ : Hid (rend s i 2 = j)) (h3 : j < s.size) (h5 : ((s[j].toNat : Int) == 46) = true) (h6 : (kd s (j + 1) == 2) = false) (hn1 : j - i > 9) :
    Calls Tryd.prog 23 #[.string s, .int .i64 i] w fun e w' => e = .returned (.tuple #[tokv 0 ⟨#[]⟩ 0 0, .int .i64 4]) ∧ Below w.heap.size w w' := by
  have hr : rend s i 2 = j := HJ.out
  go_enter Tryd.func23, Tryd.ntmps23
  go_wp2_with (first | (go_at_call 25; go_must (refine (runEnd_any s _ 2 _ (by unfold maxLen; omega) (by omega) (HT.out.alloc _)).mono ?_); rintro e w' ⟨rfl, rfl⟩; simp only [Int.toNat_natCast])
                     | (go_at_call 26; go_must (refine (kindAt_any s _ _ (by unfold maxLen; omega) (by omega) (HT.out.alloc _)).mono ?_); rintro e w' ⟨rfl, rfl⟩; simp only [tn]))
  exact bodyPost_ret (v := .tuple #[tokv 0 ⟨#[]⟩ 0 0, .int .i64 4]) (by simp [results, Tryd.results23, go_sem, tokv]) rfl ⟨rfl, (Below.refl _ _).alloc (Nat.le_refl _) _⟩
set_option maxHeartbeats 1000000 in
/-- A fraction. -/
theorem num_4 (s : ByteArray) (i j : Nat) (w : World) (_hs : s.size < 2 ^ 63 - 1) (HT : Hid (Tab w)) (h1 : i ≤ j) (HJ : Hid (rend s i 2 = j)) (h3 : j < s.size) (h5 : ((s[j].toNat : Int) == 46) = true) (h6 : (kd s (j + 1) == 2) = true) (k : Nat) (h7 : j + 1 < k) (h8 : k ≤ s.size) (HK : Hid (rend s (j + 1) 2 = k)) (hn2 : k - j ≤ 2) (hn1 : j - i ≤ 9) (HA : Hid (Dg (s.extract i j))) (HB : Hid (Dg (s.extract (j + 1) k))) :
    Calls Tryd.prog 23 #[.string s, .int .i64 i] w fun e w' => e = .returned (.tuple #[tokv 2 (s.extract i k) (10 * decs (s.extract i j) + decs (s.extract (j + 1) k)) i, .int .i64 0]) ∧ Below w.heap.size w w' := by
  have hk : rend s (j + 1) 2 = k := HK.out
  have hd := decs_Dg HA.out
  have hd2 := decs_Dg HB.out
  have hr : rend s i 2 = j := HJ.out
  go_enter Tryd.func23, Tryd.ntmps23
  go_wp2_with (first | (go_at_call 25; go_must (refine (runEnd_any s _ 2 _ (by unfold maxLen; omega) (by omega) (HT.out.alloc _)).mono ?_); rintro e w' ⟨rfl, rfl⟩; simp only [Int.toNat_natCast, tn])
                     | (go_at_call 26; go_must (refine (kindAt_any s _ _ (by unfold maxLen; omega) (by omega) (HT.out.alloc _)).mono ?_); rintro e w' ⟨rfl, rfl⟩; simp only [tn])
                     | (go_at_call 28; go_must (refine (dec_any _ _ (by first | exact HA.out | exact HB.out)).mono ?_); rintro e w' ⟨rfl, rfl⟩))
  exact bodyPost_ret (v := .tuple #[tokv 2 (s.extract i k) (10 * decs (s.extract i j) + decs (s.extract (j + 1) k)) i, .int .i64 0]) (by simp [results, Tryd.results23, go_sem, tokv]) rfl ⟨rfl, (Below.refl _ _).alloc (Nat.le_refl _) _⟩
set_option maxHeartbeats 1000000 in
/-- Too many digits before a fraction. -/
theorem nume_4 (s : ByteArray) (i j : Nat) (w : World) (_hs : s.size < 2 ^ 63 - 1) (HT : Hid (Tab w)) (h1 : i ≤ j) (HJ : Hid (rend s i 2 = j)) (h3 : j < s.size) (h5 : ((s[j].toNat : Int) == 46) = true) (h6 : (kd s (j + 1) == 2) = true) (k : Nat) (h7 : j + 1 < k) (h8 : k ≤ s.size) (HK : Hid (rend s (j + 1) 2 = k)) (hn1 : j - i > 9) :
    Calls Tryd.prog 23 #[.string s, .int .i64 i] w fun e w' => e = .returned (.tuple #[tokv 0 ⟨#[]⟩ 0 0, .int .i64 4]) ∧ Below w.heap.size w w' := by
  have hk : rend s (j + 1) 2 = k := HK.out
  have hr : rend s i 2 = j := HJ.out
  go_enter Tryd.func23, Tryd.ntmps23
  go_wp2_with (first | (go_at_call 25; go_must (refine (runEnd_any s _ 2 _ (by unfold maxLen; omega) (by omega) (HT.out.alloc _)).mono ?_); rintro e w' ⟨rfl, rfl⟩; simp only [Int.toNat_natCast, tn])
                     | (go_at_call 26; go_must (refine (kindAt_any s _ _ (by unfold maxLen; omega) (by omega) (HT.out.alloc _)).mono ?_); rintro e w' ⟨rfl, rfl⟩; simp only [tn]))
  exact bodyPost_ret (v := .tuple #[tokv 0 ⟨#[]⟩ 0 0, .int .i64 4]) (by simp [results, Tryd.results23, go_sem, tokv]) rfl ⟨rfl, (Below.refl _ _).alloc (Nat.le_refl _) _⟩
set_option maxHeartbeats 1000000 in
/-- Too long a fraction. -/
theorem nume_5 (s : ByteArray) (i j : Nat) (w : World) (_hs : s.size < 2 ^ 63 - 1) (HT : Hid (Tab w)) (h1 : i ≤ j) (HJ : Hid (rend s i 2 = j)) (h3 : j < s.size) (h5 : ((s[j].toNat : Int) == 46) = true) (h6 : (kd s (j + 1) == 2) = true) (k : Nat) (h7 : j + 1 < k) (h8 : k ≤ s.size) (HK : Hid (rend s (j + 1) 2 = k)) (hn1 : j - i ≤ 9) (hn2 : k - j > 2) :
    Calls Tryd.prog 23 #[.string s, .int .i64 i] w fun e w' => e = .returned (.tuple #[tokv 0 ⟨#[]⟩ 0 0, .int .i64 4]) ∧ Below w.heap.size w w' := by
  have hk : rend s (j + 1) 2 = k := HK.out
  have hr : rend s i 2 = j := HJ.out
  go_enter Tryd.func23, Tryd.ntmps23
  go_wp2_with (first | (go_at_call 25; go_must (refine (runEnd_any s _ 2 _ (by unfold maxLen; omega) (by omega) (HT.out.alloc _)).mono ?_); rintro e w' ⟨rfl, rfl⟩; simp only [Int.toNat_natCast, tn])
                     | (go_at_call 26; go_must (refine (kindAt_any s _ _ (by unfold maxLen; omega) (by omega) (HT.out.alloc _)).mono ?_); rintro e w' ⟨rfl, rfl⟩; simp only [tn]))
  exact bodyPost_ret (v := .tuple #[tokv 0 ⟨#[]⟩ 0 0, .int .i64 4]) (by simp [results, Tryd.results23, go_sem, tokv]) rfl ⟨rfl, (Below.refl _ _).alloc (Nat.le_refl _) _⟩

theorem frac_cases (s : ByteArray) (j : Nat) (hj : j ≤ s.size) (hf : frac s j = false) : ¬ j < s.size ∨ (∃ h : j < s.size, ((s[j].toNat : Int) == 46) = false) ∨ (∃ h : j < s.size, ((s[j].toNat : Int) == 46) = true ∧ (kd s (j + 1) == 2) = false) := by
  by_cases h : j < s.size
  · unfold frac at hf
    rw [dif_pos h] at hf
    cases h46 : ((s[j].toNat : Int) == 46)
    · exact .inr (.inl ⟨h, h46⟩)
    · rw [h46, Bool.true_and] at hf
      exact .inr (.inr ⟨h, h46, hf⟩)
  · exact .inl h
theorem frac_yes (s : ByteArray) (j : Nat) (hf : frac s j = true) : ∃ h : j < s.size, ((s[j].toNat : Int) == 46) = true ∧ (kd s (j + 1) == 2) = true := by
  unfold frac at hf
  split at hf
  · rename_i h; rw [Bool.and_eq_true] at hf; exact ⟨h, hf.1, hf.2⟩
  · cases hf
theorem rend_gt {s : ByteArray} {j : Nat} (h : (kd s j == 2) = true) : j < rend s j 2 := by
  have h2 : inK (kd s j) 2 = true := by rw [beq_iff_eq.1 h]; decide
  rw [rend_step h2]
  exact rend_ge s (j + 1) 2
theorem scanNumber_ok (s : ByteArray) (i : Nat) (w : World) (hs : s.size < 2 ^ 63 - 1) (hi : i < s.size) (HT : Hid (Tab w)) (hn : ¬ nbad s i) :
    Calls Tryd.prog 23 #[.string s, .int .i64 i] w fun e w' => e = .returned (.tuple #[tokv 2 (s.extract i (nend s i)) (nval s i) i, .int .i64 0]) ∧ Below w.heap.size w w' := by
  have h1 := rend_ge s i 2
  have h2 := rend_le s i 2 (by omega)
  obtain ⟨hn1, hn2⟩ := not_or.1 hn
  have HA := Lib.hid (rend_Dg s i (by omega))
  cases hf : frac s (rend s i 2)
  · have hne : nend s i = rend s i 2 := by unfold nend; rw [hf]; rfl
    have hv : (nval s i : Int) = 10 * decs (s.extract i (rend s i 2)) := by unfold nval; rw [hf]; simp
    rw [hne, hv]
    rcases frac_cases s _ h2 hf with h3 | ⟨h3, h4⟩ | ⟨h3, h4, h5⟩
    · exact num_1 s i _ w hs HT h1 rfl h3 h2 (by omega) HA
    · exact num_2 s i _ w hs HT h1 rfl h3 h4 (by omega) HA
    · exact num_3 s i _ w hs HT h1 rfl h3 h4 h5 (by omega) HA
  · have hne : nend s i = rend s (rend s i 2 + 1) 2 := by unfold nend; rw [hf]; rfl
    have hv : (nval s i : Int) = 10 * decs (s.extract i (rend s i 2)) + decs (s.extract (rend s i 2 + 1) (rend s (rend s i 2 + 1) 2)) := by unfold nval; rw [hf, hne]; simp
    obtain ⟨h3, h4, h5⟩ := frac_yes s _ hf
    have h6 := rend_gt h5
    have h7 := rend_le s (rend s i 2 + 1) 2 (by omega)
    rw [hne] at hn2
    rw [hne, hv]
    exact num_4 s i _ w hs HT h1 rfl h3 h4 h5 _ h6 h7 rfl (by omega) (by omega) HA (Lib.hid (rend_Dg s _ (by omega)))
theorem scanNumber_err (s : ByteArray) (i : Nat) (w : World) (hs : s.size < 2 ^ 63 - 1) (hi : i < s.size) (HT : Hid (Tab w)) (hn : nbad s i) :
    Calls Tryd.prog 23 #[.string s, .int .i64 i] w fun e w' => e = .returned (.tuple #[tokv 0 ⟨#[]⟩ 0 0, .int .i64 4]) ∧ Below w.heap.size w w' := by
  have h1 := rend_ge s i 2
  have h2 := rend_le s i 2 (by omega)
  cases hf : frac s (rend s i 2)
  · have hne : nend s i = rend s i 2 := by unfold nend; rw [hf]; rfl
    have hn1 : rend s i 2 - i > 9 := by unfold nbad at hn; rw [hne] at hn; omega
    rcases frac_cases s _ h2 hf with h3 | ⟨h3, h4⟩ | ⟨h3, h4, h5⟩
    · exact nume_1 s i _ w hs HT h1 rfl h3 h2 hn1
    · exact nume_2 s i _ w hs HT h1 rfl h3 h4 hn1
    · exact nume_3 s i _ w hs HT h1 rfl h3 h4 h5 hn1
  · have hne : nend s i = rend s (rend s i 2 + 1) 2 := by unfold nend; rw [hf]; rfl
    obtain ⟨h3, h4, h5⟩ := frac_yes s _ hf
    have h6 := rend_gt h5
    have h7 := rend_le s (rend s i 2 + 1) 2 (by omega)
    unfold nbad at hn
    rw [hne] at hn
    by_cases h9 : rend s i 2 - i > 9
    · exact nume_4 s i _ w hs HT h1 rfl h3 h4 h5 _ h6 h7 rfl h9
    · exact nume_5 s i _ w hs HT h1 rfl h3 h4 h5 _ h6 h7 rfl (by omega) (by omega)
end Go.Proofs.YtaokedpcijmncaaDoor
