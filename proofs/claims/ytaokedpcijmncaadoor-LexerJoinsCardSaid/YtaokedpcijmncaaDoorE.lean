/- What the lexer yields; the contracts of 'next' for every byte, and of 'tokens'. -/
import Derived.Test.YtaokedpcijmncaaDoorD
namespace Go.Proofs.YtaokedpcijmncaaDoor
open Go.RowKit Go.Maps

/-- What is yielded: a token and an error. -/
structure Item where
  k : Int
  t : ByteArray
  v : Int
  at_ : Int
  err : Int
def Item.val (x : Item) : Value := tokv x.k x.t x.v x.at_
/-- What begins at an offset. -/
def item (s : ByteArray) (p : Nat) : Item :=
  if kd s p = 1 then (if rend s p 7 - p > 16 then ⟨0, ⟨#[]⟩, 0, p, 2⟩ else ⟨1, s.extract p (rend s p 7), 0, p, 0⟩)
  else if kd s p = 2 then (if rend s p 2 - p > 9 ∨ nend s p - rend s p 2 > 2 then ⟨0, ⟨#[]⟩, 0, p, 4⟩ else ⟨2, s.extract p (nend s p), nval s p, p, 0⟩)
  else if kd s p = 8 then ⟨3, s.extract p (p + slen s p), 0, p, 0⟩
  else ⟨0, ⟨#[]⟩, 0, p, 3⟩
/-- All that is yielded from an offset on. -/
def items (s : ByteArray) : Nat → Nat → List Item
  | 0, _ => []
  | n + 1, p => if p < s.size then (if (item s p).err = 0 then item s p :: items s n (gap s (p + (item s p).t.size)) else [item s p]) else []

theorem kt_all : ∀ n : Fin 256, kt.getD n.val 0 = 0 ∨ kt.getD n.val 0 = 1 ∨ kt.getD n.val 0 = 2 ∨ kt.getD n.val 0 = 4 ∨ kt.getD n.val 0 = 8 ∨ kt.getD n.val 0 = 16 ∨ kt.getD n.val 0 = 32 := by decide +kernel
theorem kd_all (s : ByteArray) (p : Nat) : kd s p = 0 ∨ kd s p = 1 ∨ kd s p = 2 ∨ kd s p = 4 ∨ kd s p = 8 ∨ kd s p = 16 ∨ kd s p = 32 := by
  unfold kd
  split
  · exact kt_all ⟨_, UInt8.toNat_lt _⟩
  · exact .inl rfl

theorem gap_ge (s : ByteArray) (i : Nat) : i ≤ gap s i := by
  unfold gap
  generalize s.size - i = n
  induction n generalizing i with
  | zero => exact rend_ge s i 16
  | succ n ih =>
    rw [gapN]
    split
    · rename_i h
      have h1 := lend_gt s _ h
      have h2 := rend_ge s i 16
      have h3 := ih (lend s (rend s i 16))
      omega
    · exact rend_ge s i 16
theorem gap_le (s : ByteArray) (i : Nat) (hi : i ≤ s.size) : gap s i ≤ s.size := by
  unfold gap
  generalize s.size - i = n
  induction n generalizing i with
  | zero => exact rend_le s i 16 hi
  | succ n ih =>
    have h2 := rend_le s i 16 hi
    rw [gapN]
    split
    · exact ih _ (lend_le s _ h2)
    · exact h2
theorem nend_ge (s : ByteArray) (i : Nat) : rend s i 2 ≤ nend s i := by
  unfold nend
  split
  · have := rend_ge s (rend s i 2 + 1) 2; omega
  · exact Nat.le_refl _
theorem nend_le (s : ByteArray) (i : Nat) (hi : i ≤ s.size) : nend s i ≤ s.size := by
  have h1 := rend_le s i 2 hi
  unfold nend
  split
  · rename_i h
    obtain ⟨h3, _, _⟩ := frac_yes s _ h
    exact rend_le s _ 2 (by omega)
  · exact h1
theorem two_lt {s : ByteArray} {i : Nat} (h : two s i = true) : i + 1 < s.size := by
  apply Classical.byContradiction; intro hn
  rw [two_out hn] at h; cases h
theorem slen_bd (s : ByteArray) (i : Nat) (hi : i < s.size) : 1 ≤ slen s i ∧ i + slen s i ≤ s.size := by
  unfold slen
  split
  · rename_i h; have := two_lt h; omega
  · omega
/-- A token is not empty, and lies within the text. -/
theorem item_len (s : ByteArray) (p : Nat) (hp : p < s.size) (h : (item s p).err = 0) : 1 ≤ (item s p).t.size ∧ p + (item s p).t.size ≤ s.size := by
  unfold item at h ⊢
  split at h
  · rename_i hk
    rw [if_pos hk]
    split at h
    · cases h
    · rename_i hc
      rw [if_neg hc]
      have h1 : rend s p 7 = rend s (p + 1) 7 := rend_step (by rw [hk]; decide)
      have h2 := rend_ge s (p + 1) 7
      have h3 := rend_le s p 7 (by omega)
      simp only [ByteArray.size_extract]
      omega
  · rename_i hk
    rw [if_neg hk]
    split at h
    · rename_i hk2
      rw [if_pos hk2]
      split at h
      · cases h
      · rename_i hc
        rw [if_neg hc]
        have h1 : rend s p 2 = rend s (p + 1) 2 := rend_step (by rw [hk2]; decide)
        have h2 := rend_ge s (p + 1) 2
        have h3 := nend_le s p (by omega)
        have h4 := nend_ge s p
        simp only [ByteArray.size_extract]
        omega
    · rename_i hk2
      rw [if_neg hk2]
      split at h
      · rename_i hk8
        rw [if_pos hk8]
        have := slen_bd s p hp
        simp only [ByteArray.size_extract]
        omega
      · cases h
/-- All that is yielded from an offset on. -/
def its (s : ByteArray) (p : Nat) : List Item := items s (s.size + 1 - p) p
theorem items_fuel (s : ByteArray) (n m p : Nat) (hn : s.size + 1 - p ≤ n) (hm : s.size + 1 - p ≤ m) : items s n p = items s m p := by
  induction n generalizing m p with
  | zero =>
    cases m with
    | zero => rfl
    | succ m => rw [items, items, if_neg (by omega)]
  | succ n ih =>
    by_cases hp : p < s.size
    · cases m with
      | zero => omega
      | succ m =>
        rw [items, items, if_pos hp, if_pos hp]
        by_cases he : (item s p).err = 0
        · rw [if_pos he, if_pos he]
          have h1 := (item_len s p hp he).1
          have h2 := gap_ge s (p + (item s p).t.size)
          rw [ih m _ (by omega) (by omega)]
        · rw [if_neg he, if_neg he]
    · cases m with
      | zero => rw [items, items, if_neg hp]
      | succ m => rw [items, items, if_neg hp, if_neg hp]
theorem its_go (s : ByteArray) (p : Nat) (hp : p < s.size) (he : (item s p).err = 0) : its s p = item s p :: its s (gap s (p + (item s p).t.size)) := by
  unfold its
  have h1 := (item_len s p hp he).1
  have h2 := gap_ge s (p + (item s p).t.size)
  rw [show s.size + 1 - p = (s.size - p) + 1 by omega, items, if_pos hp, if_pos he]
  rw [items_fuel s (s.size - p) (s.size + 1 - gap s (p + (item s p).t.size)) _ (by omega) (by omega)]
theorem its_stop (s : ByteArray) (p : Nat) (hp : p < s.size) (he : (item s p).err ≠ 0) : its s p = [item s p] := by
  unfold its
  rw [show s.size + 1 - p = (s.size - p) + 1 by omega, items, if_pos hp, if_neg he]
theorem its_end (s : ByteArray) (p : Nat) (hp : ¬ p < s.size) : its s p = [] := by
  unfold its
  cases s.size + 1 - p with
  | zero => rfl
  | succ n => rw [items, if_neg hp]

theorem next_any (s : ByteArray) (p : Nat) (w : World) (b : Nat) (hs : s.size < 2 ^ 63 - 1) (HT : Tab w) (HS : Scan w b) (hp : p < s.size) :
    Calls Tryd.prog 21 #[.map (some b), .string s, .int .i64 p] w fun e w' => e = .returned (.tuple #[(item s p).val, .int .i64 (item s p).err]) ∧ Below w.heap.size w w' := by
  unfold item
  rcases kd_all s p with h | h | h | h | h | h | h
  · rw [h]; exact next_miss s p w b hs HT HS 0 h (by decide) rfl rfl
  · rw [h, if_pos rfl]
    split
    · rename_i hc; exact next_name_err s p w b hs HT HS h hp hc
    · rename_i hc; exact next_name_ok s p w b hs HT HS h hp hc
  · rw [h, if_neg (by decide), if_pos rfl]
    split
    · rename_i hc; exact next_num_err s p w b hs HT HS h hp hc
    · rename_i hc; exact next_num_ok s p w b hs HT HS h hp hc
  · rw [h]; exact next_miss s p w b hs HT HS 4 h (by decide) rfl rfl
  · rw [h, if_neg (by decide), if_neg (by decide), if_pos rfl]; exact next_sym s p w b hs HT HS h hp
  · rw [h]; exact next_miss s p w b hs HT HS 16 h (by decide) rfl rfl
  · rw [h]; exact next_miss s p w b hs HT HS 32 h (by decide) rfl rfl

set_option maxHeartbeats 400000 in
theorem tokens_any (s : ByteArray) (w : World) :
    Calls Tryd.prog 17 #[.string s] w fun e w' => e = .returned (.func (.func 18) #[] #[.pointer (some ⟨w.heap.size, 0, none⟩)]) ∧ w' = w.alloc (.cells #[.string s] 9) := by
  go_enter Tryd.func17, Tryd.ntmps17
  go_wp2
  go_ret
  exact ⟨rfl, rfl⟩
end Go.Proofs.YtaokedpcijmncaaDoor
