/- Contracts of the lexer's small functions (kinds of bytes, runs, gaps). -/
import Derived.Test.YtaokedpcijmncaaDoorRows
import Derived.WalkKit
import Derived.WalkSpells
import Derived.WalkLawsBesides
import Derived.Lib.Hide
import Derived.Test.YtaokedpcijmncaaDoorShelf
namespace Go.Proofs.YtaokedpcijmncaaDoor
open Go.RowKit

theorem ret_int {k : IntKind} {a b : Int} (h : a = b) : Ending.returned (.int k a) = .returned (.int k b) := by rw [h]

/-- The kinds of the bytes below 128. -/
def kt : List Int := [0,0,0,0,0,0,0,0,0,16,16,0,0,0,0,0,0,0,0,0,0,0,0,0,0,0,0,0,0,0,0,0,16,0,0,32,0,8,0,0,0,0,0,0,8,8,8,0,2,2,2,2,2,2,2,2,2,2,8,8,8,8,8,0,0,1,1,1,1,1,1,1,1,1,1,1,1,1,1,1,1,1,1,1,1,1,1,1,1,1,1,0,0,0,0,4,0,1,1,1,1,1,1,1,1,1,1,1,1,1,1,1,1,1,1,1,1,1,1,1,1,1,1,8,0,8,0,0]
/-- The kind of one byte. -/
def kb (c : UInt8) : Int := kt.getD c.toNat 0
/-- The kind of the byte at an offset. -/
def kd (s : ByteArray) (i : Nat) : Int := if h : i < s.size then kb s[i] else 0
/-- The table of kinds lies in a world. -/
def Tab (w : World) : Prop := ∀ j, j < 128 → w.cell? ⟨0, j, none⟩ = some (.int .u8 (kt.getD j 0))

theorem kb_big (c : UInt8) (h : ¬ c.toNat < 128) : kb c = 0 := by
  unfold kb; rw [List.getD_eq_getElem?_getD, List.getElem?_eq_none (by simp [kt]; omega)]; rfl

set_option maxHeartbeats 400000 in
theorem kindAt_any (s : ByteArray) (i : Int) (w : World) (_hs : s.size ≤ maxLen) (hi : 0 ≤ i) (hT : Tab w) :
    Calls Tryd.prog 26 #[.string s, .int .i64 i] w fun e w' => e = .returned (.int .u8 (kd s i.toNat)) ∧ w = w' := by
  unfold maxLen at _hs
  obtain ⟨i, rfl⟩ := Int.eq_ofNat_of_zero_le hi
  rw [Int.toNat_natCast]
  clear hi
  by_cases hi : i < s.size
  · by_cases h : s[i].toNat < 128
    · have hc := hT s[i].toNat h
      have HK := Lib.hid (show kd s i = kt.getD s[i].toNat 0 by unfold kd kb; rw [dif_pos hi])
      clear hT
      go_enter Tryd.func26, Tryd.ntmps26
      go_wp2
      go_ret
      exact ⟨ret_int (by rw [HK.out]; simp), rfl⟩
    · have HK := Lib.hid (show kd s i = 0 by unfold kd; rw [dif_pos hi, kb_big _ h])
      clear hT
      go_enter Tryd.func26, Tryd.ntmps26
      go_wp2
      go_ret
      exact ⟨ret_int HK.out.symm, rfl⟩
  · have HK := Lib.hid (show kd s i = 0 by unfold kd; rw [dif_neg hi])
    clear hT
    go_enter Tryd.func26, Tryd.ntmps26
    go_wp2
    go_ret
    exact ⟨ret_int HK.out.symm, rfl⟩

/-- A byte is one of some kinds (a mask). -/
def inK (k : Int) (K : Int) : Bool := bits BinOp.and IntKind.u8 k K != 0
/-- The offset behind the bytes of some kinds. -/
def rendN (s : ByteArray) (K : Int) : Nat → Nat → Nat
  | 0, i => i
  | n + 1, i => if inK (kd s i) K then rendN s K n (i + 1) else i
def rend (s : ByteArray) (i : Nat) (K : Int) : Nat := rendN s K (s.size - i) i

theorem kd_out {s : ByteArray} {i : Nat} (h : ¬ i < s.size) : kd s i = 0 := by unfold kd; rw [dif_neg h]
theorem bits_and_zero (K : Int) : bits BinOp.and IntKind.u8 0 K = 0 := by
  show IntKind.u8.wrap ↑(BitVec.ofInt 8 0 &&& BitVec.ofInt 8 K).toNat = 0
  rw [show BitVec.ofInt 8 0 = 0#8 from rfl, BitVec.zero_and]; rfl
theorem inK_lt {s : ByteArray} {i : Nat} {K : Int} (h : inK (kd s i) K = true) : i < s.size := by
  apply Classical.byContradiction; intro hn
  rw [kd_out hn] at h; simp [inK, bits_and_zero] at h
theorem rend_step {s : ByteArray} {j : Nat} {K : Int} (h : inK (kd s j) K = true) : rend s j K = rend s (j + 1) K := by
  have hj := inK_lt h
  unfold rend
  rw [show s.size - j = (s.size - (j + 1)) + 1 by omega, rendN, if_pos h]
theorem rend_stop {s : ByteArray} {j : Nat} {K : Int} (h : inK (kd s j) K = false) : rend s j K = j := by
  unfold rend
  cases hn : s.size - j with
  | zero => rfl
  | succ n => rw [rendN, if_neg (by simp [h])]

set_option maxHeartbeats 400000 in
theorem runEnd_any (s : ByteArray) (i K : Int) (w : World) (hs : s.size ≤ maxLen) (hi : 0 ≤ i) (hT : Tab w) :
    Calls Tryd.prog 25 #[.string s, .int .i64 i, .int .u8 K] w fun e w' => e = .returned (.int .i64 (rend s i.toNat K)) ∧ w = w' := by
  unfold maxLen at hs
  obtain ⟨i, rfl⟩ := Int.eq_ofNat_of_zero_le hi
  rw [Int.toNat_natCast]
  have HT := Lib.hid hT
  clear hi hT
  go_enter Tryd.func25, Tryd.ntmps25
  go_wp2_with fail
  go_loop [1] (fun t => ∃ j : Nat, rend s j K = rend s i K ∧ t = .int .i64 j) (fun t => s.size - (intOf t).toNat)
  case atStart => exact ⟨i, rfl, rfl⟩
  case round =>
    obtain ⟨j, hj, rfl⟩ := hrel
    have HJ := Lib.hid hj
    clear hj
    by_cases hk : inK (kd s j) K = true
    · have HK := Lib.hid hk
      have hlt := inK_lt hk
      unfold inK at hk
      go_wp2_with (go_at_call 26; go_must (refine (kindAt_any s _ w (by unfold maxLen; omega) (by omega) HT.out).mono ?_); rintro e w' ⟨rfl, rfl⟩)
      go_round
      case rel => exact ⟨j + 1, (rend_step HK.out).symm.trans HJ.out, by go_num⟩
      case measure => simp [intOf]; omega
    · have hk0 : inK (kd s j) K = false := by simpa using hk
      have HK := Lib.hid hk0
      unfold inK at hk0
      clear hk
      go_wp2_with (go_at_call 26; go_must (refine (kindAt_any s _ w (by unfold maxLen; omega) (by omega) HT.out).mono ?_); rintro e w' ⟨rfl, rfl⟩)
      go_ret
      exact ⟨ret_int (by rw [← HJ.out, rend_stop HK.out]), rfl⟩

/-- Where the next line feed is, from an offset on. -/
def idx (s : ByteArray) (i : Nat) : Int := Lib.indexByte (s.data.toList.drop i) 10
theorem indexByte_bd (l : List UInt8) (c : UInt8) : -1 ≤ Lib.indexByte l c ∧ (Lib.indexByte l c < l.length ∨ Lib.indexByte l c = -1) := by
  induction l with
  | nil => simp [Lib.indexByte]
  | cons b l ih =>
    simp only [Lib.indexByte, List.length_cons]
    split
    · exact ⟨by omega, by omega⟩
    · split
      · exact ⟨by omega, by omega⟩
      · rename_i h; simp at h; exact ⟨by omega, by omega⟩
theorem idx_bd (s : ByteArray) (i : Nat) : -1 ≤ idx s i ∧ (idx s i < s.size - i ∨ idx s i = -1) := by
  have := indexByte_bd (s.data.toList.drop i) 10
  unfold idx
  simp at this
  refine ⟨this.1, ?_⟩
  have h0 : s.data.size = s.size := rfl
  omega
/-- The offset of the next line feed, or the length. -/
def lend (s : ByteArray) (i : Nat) : Nat := if idx s i < 0 then s.size else i + (idx s i).toNat
theorem ib_any (s : ByteArray) (i : Nat) (w : World) :
    Calls Tryd.prog 29 #[.string (s.extract i s.size), .int .u8 10] w fun e w' => e = .returned (.int .i64 (idx s i)) ∧ w = w' := by
  refine (Tryd.strings_IndexByte _ 10 w).mono fun e w' ⟨h1, h2⟩ => ⟨?_, h2.symm⟩
  rw [h1]; apply ret_int
  unfold idx
  congr 1
  simp
  exact List.take_of_length_le (by simp)

set_option maxHeartbeats 400000 in
theorem lineEnd_any (s : ByteArray) (i : Int) (w : World) (hs : s.size ≤ maxLen) (hi : 0 ≤ i) (hi2 : i < s.size) :
    Calls Tryd.prog 27 #[.string s, .int .i64 i] w fun e w' => e = .returned (.int .i64 (lend s i.toNat)) ∧ w = w' := by
  unfold maxLen at hs
  obtain ⟨i, rfl⟩ := Int.eq_ofNat_of_zero_le hi
  rw [Int.toNat_natCast]
  have hb := idx_bd s i
  obtain ⟨hb1, hb2⟩ := hb
  have hb3 : idx s i < s.size - i := by omega
  clear hb2 hi
  by_cases h0 : idx s i < 0
  · have HF := Lib.hid (show (lend s i : Int) = s.size by unfold lend; rw [if_pos h0])
    go_enter Tryd.func27, Tryd.ntmps27
    go_wp2_with (go_at_call 29; go_must (refine (ib_any s i w).mono ?_); rintro e w' ⟨rfl, rfl⟩)
    go_ret
    exact ⟨ret_int HF.out.symm, rfl⟩
  · have HF := Lib.hid (show (lend s i : Int) = i + idx s i by unfold lend; rw [if_neg h0]; omega)
    go_enter Tryd.func27, Tryd.ntmps27
    go_wp2_with (go_at_call 29; go_must (refine (ib_any s i w).mono ?_); rintro e w' ⟨rfl, rfl⟩)
    go_ret
    exact ⟨ret_int HF.out.symm, rfl⟩

/-- The offset behind the gaps. -/
def gapN (s : ByteArray) : Nat → Nat → Nat
  | 0, i => rend s i 16
  | n + 1, i => if kd s (rend s i 16) = 32 then gapN s n (lend s (rend s i 16)) else rend s i 16
def gap (s : ByteArray) (i : Nat) : Nat := gapN s (s.size - i) i

theorem kd_lt {s : ByteArray} {i : Nat} (h : kd s i ≠ 0) : i < s.size := by
  apply Classical.byContradiction; intro hn; exact h (kd_out hn)
theorem rend_ge (s : ByteArray) (i : Nat) (K : Int) : i ≤ rend s i K := by
  unfold rend
  generalize s.size - i = n
  induction n generalizing i with
  | zero => exact Nat.le_refl _
  | succ n ih => rw [rendN]; split; exact Nat.le_trans (Nat.le_succ i) (ih (i + 1)); exact Nat.le_refl _
theorem rend_le (s : ByteArray) (i : Nat) (K : Int) (h : i ≤ s.size) : rend s i K ≤ s.size := by
  unfold rend
  generalize hn : s.size - i = n
  induction n generalizing i with
  | zero => exact h
  | succ n ih => rw [rendN]; split; exact ih (i + 1) (by omega) (by omega); exact h
theorem lend_ge (s : ByteArray) (i : Nat) (h : i ≤ s.size) : i ≤ lend s i := by
  unfold lend; split <;> omega
theorem lend_le (s : ByteArray) (i : Nat) (h : i ≤ s.size) : lend s i ≤ s.size := by
  have := idx_bd s i
  unfold lend; split <;> omega
theorem drop_kd {s : ByteArray} {j : Nat} (hj : j < s.size) : s.data.toList.drop j = s[j] :: s.data.toList.drop (j + 1) := by
  rw [List.drop_eq_getElem_cons (by simpa using hj)]; rfl
theorem lend_gt (s : ByteArray) (j : Nat) (h : kd s j = 32) : j < lend s j := by
  have hj : j < s.size := kd_lt (by omega)
  have hb := idx_bd s j
  unfold lend
  split
  · exact hj
  · have : idx s j ≠ 0 := by
      unfold idx
      rw [drop_kd hj]
      simp only [Lib.indexByte]
      have : ¬ (s[j] = 10) := by
        intro e; unfold kd at h; rw [dif_pos hj, e] at h; revert h; decide
      simp only [beq_iff_eq, this, if_false]
      have := (indexByte_bd (s.data.toList.drop (j + 1)) 10).1
      split <;> omega
    omega
theorem rend_out {s : ByteArray} {i : Nat} {K : Int} (h : s.size ≤ i) : rend s i K = i := by
  unfold rend; rw [show s.size - i = 0 by omega]; rfl
theorem gapN_fuel (s : ByteArray) (n m i : Nat) (hn : s.size - i ≤ n) (hm : s.size - i ≤ m) : gapN s n i = gapN s m i := by
  induction n generalizing i m with
  | zero =>
    have h0 : kd s (rend s i 16) = 0 := by rw [rend_out (by omega)]; exact kd_out (by omega)
    cases m with
    | zero => rfl
    | succ m => rw [gapN, gapN, if_neg (by rw [h0]; decide)]
  | succ n ih =>
    by_cases h : kd s (rend s i 16) = 32
    · have h1 := lend_gt s _ h
      have h2 := rend_ge s i 16
      have h3 := kd_lt (i := rend s i 16) (s := s) (by omega)
      cases m with
      | zero => omega
      | succ m =>
        rw [gapN, gapN, if_pos h, if_pos h]
        exact ih _ _ (by omega) (by omega)
    · cases m with
      | zero => rw [gapN, gapN, if_neg h]
      | succ m => rw [gapN, gapN, if_neg h, if_neg h]
theorem gap_step {s : ByteArray} {i : Nat} (h : kd s (rend s i 16) = 32) : gap s i = gap s (lend s (rend s i 16)) := by
  have h1 := lend_gt s _ h
  have h2 := rend_ge s i 16
  have h3 := kd_lt (i := rend s i 16) (s := s) (by omega)
  unfold gap
  rw [show s.size - i = (s.size - i - 1) + 1 by omega, gapN, if_pos h]
  exact gapN_fuel s _ _ _ (by omega) (by omega)
theorem gap_stop {s : ByteArray} {i : Nat} (h : kd s (rend s i 16) ≠ 32) : gap s i = rend s i 16 := by
  unfold gap
  cases s.size - i with
  | zero => rfl
  | succ n => rw [gapN, if_neg h]

set_option maxHeartbeats 400000 in
theorem skipGaps_any (s : ByteArray) (i : Int) (w : World) (hs : s.size ≤ maxLen) (hi : 0 ≤ i) (hT : Tab w) :
    Calls Tryd.prog 20 #[.string s, .int .i64 i] w fun e w' => e = .returned (.int .i64 (gap s i.toNat)) ∧ w = w' := by
  unfold maxLen at hs
  obtain ⟨i, rfl⟩ := Int.eq_ofNat_of_zero_le hi
  rw [Int.toNat_natCast]
  have HT := Lib.hid hT
  clear hi hT
  go_enter Tryd.func20, Tryd.ntmps20
  go_wp2_with fail
  go_loop [1] (fun t => ∃ j : Nat, gap s j = gap s i ∧ t = .int .i64 j) (fun t => s.size - (intOf t).toNat)
  case atStart => exact ⟨i, rfl, rfl⟩
  case round =>
    obtain ⟨j, hj, rfl⟩ := hrel
    have HJ := Lib.hid hj
    clear hj
    by_cases hk : kd s (rend s j 16) = 32
    · have HK := Lib.hid hk
      have h1 := lend_gt s _ hk
      have h2 := rend_ge s j 16
      have h3 := kd_lt (i := rend s j 16) (s := s) (by omega)
      have hk1 : (kd s (rend s j 16) != 32) = false := by simpa using hk
      clear hk
      go_wp2_with (first | (go_at_call 25; go_must (refine (runEnd_any s _ 16 w (by unfold maxLen; omega) (by omega) HT.out).mono ?_); rintro e w' ⟨rfl, rfl⟩)
                         | (go_at_call 26; go_must (refine (kindAt_any s _ w (by unfold maxLen; omega) (by omega) HT.out).mono ?_); rintro e w' ⟨rfl, rfl⟩)
                         | (go_at_call 27; go_must (refine (lineEnd_any s _ w (by unfold maxLen; omega) (by omega) (by omega)).mono ?_); rintro e w' ⟨rfl, rfl⟩))
      go_round
      case rel => exact ⟨lend s (rend s j 16), (gap_step HK.out).symm.trans HJ.out, rfl⟩
      case measure => simp [intOf]; omega
    · have HK := Lib.hid hk
      have hk1 : (kd s (rend s j 16) != 32) = true := by simpa using hk
      clear hk
      go_wp2_with (first | (go_at_call 25; go_must (refine (runEnd_any s _ 16 w (by unfold maxLen; omega) (by omega) HT.out).mono ?_); rintro e w' ⟨rfl, rfl⟩)
                         | (go_at_call 26; go_must (refine (kindAt_any s _ w (by unfold maxLen; omega) (by omega) HT.out).mono ?_); rintro e w' ⟨rfl, rfl⟩))
      go_ret
      exact ⟨ret_int (by rw [← HJ.out, gap_stop HK.out]), rfl⟩

/-- The value of decimal digits. -/
def dec (l : List UInt8) : Nat := l.foldl (fun a c => 10 * a + (c.toNat - 48)) 0
def digs (l : List UInt8) : Prop := ∀ c ∈ l, 48 ≤ c.toNat ∧ c.toNat ≤ 57
theorem dec_snoc (l : List UInt8) (c : UInt8) : dec (l ++ [c]) = 10 * dec l + (c.toNat - 48) := by simp [dec]
theorem dec_lt' (l : List UInt8) (h : digs l) (a : Nat) : l.foldl (fun a c => 10 * a + (c.toNat - 48)) a < (a + 1) * 10 ^ l.length := by
  induction l generalizing a with
  | nil => simp
  | cons c l ih =>
    have h1 := ih (fun x hx => h x (by simp [hx])) (10 * a + (c.toNat - 48))
    have h2 := h c (by simp)
    simp only [List.foldl_cons, List.length_cons, Nat.pow_succ]
    refine Nat.lt_of_lt_of_le h1 ?_
    rw [Nat.mul_comm (10 ^ l.length) 10, ← Nat.mul_assoc]
    exact Nat.mul_le_mul_right _ (by omega)
theorem dec_lt (l : List UInt8) (h : digs l) : dec l < 10 ^ l.length := by
  have := dec_lt' l h 0
  simpa [dec] using this
theorem dec_bd (s : ByteArray) (k : Nat) (hs : s.size ≤ 9) (h : digs s.data.toList) : dec (s.data.toList.take k) < 1000000000 := by
  have h1 := dec_lt (s.data.toList.take k) (fun c hc => h c (List.mem_of_mem_take hc))
  have h2 : (s.data.toList.take k).length ≤ 9 := Nat.le_trans (List.length_take_le' _ _) (by simpa using hs)
  have h3 := Nat.pow_le_pow_right (n := 10) (by omega) h2
  exact Nat.lt_of_lt_of_le h1 h3
theorem take_snoc (s : ByteArray) (k : Nat) (h : k < s.size) : s.data.toList.take (k + 1) = s.data.toList.take k ++ [s[k]] := by
  rw [List.take_succ_eq_append_getElem (by simpa using h)]; rfl

set_option maxHeartbeats 400000 in
theorem decimal_any (s : ByteArray) (w : World) (hs : s.size ≤ 9) (hd : digs s.data.toList) :
    Calls Tryd.prog 28 #[.string s] w fun e w' => e = .returned (.int .i64 (dec s.data.toList)) ∧ w = w' := by
  have HD := Lib.hid hd
  clear hd
  go_enter Tryd.func28, Tryd.ntmps28
  go_wp2
  go_loop [3, 7] (fun v i => ∃ k : Nat, k ≤ s.size ∧ i = .int .i64 k ∧ v = .int .i64 (dec (s.data.toList.take k))) (fun _ i => s.size - (intOf i).toNat)
  case atStart => exact ⟨0, Nat.zero_le _, rfl, rfl⟩
  case round =>
    obtain ⟨k, hk, rfl, rfl⟩ := hrel
    by_cases hlt : k < s.size
    · have hb := dec_bd s k hs HD.out
      have hc := HD.out s[k] (by simp [ByteArray.getElem_eq_getElem_data])
      have HS := Lib.hid (show dec (s.data.toList.take (k + 1)) = 10 * dec (s.data.toList.take k) + (s[k].toNat - 48) by rw [take_snoc s k hlt, dec_snoc])
      obtain ⟨hc1, hc2⟩ := hc
      generalize dec (s.data.toList.take k) = D at *
      go_wp2
      go_round
      case rel => exact ⟨k + 1, by omega, by go_num, by rw [HS.out]; congr 1; omega⟩
      case measure => simp [intOf]; omega
    · go_wp2
      go_ret
      exact ⟨ret_int (by rw [List.take_of_length_le (by simp; omega)]), rfl⟩
end Go.Proofs.YtaokedpcijmncaaDoor
