/- Contracts of the lexer's scanners. -/
import Derived.Test.YtaokedpcijmncaaDoorA
namespace Go.Proofs.YtaokedpcijmncaaDoor
open Go.RowKit

theorem Tab.pos {w : World} (h : Tab w) : 1 ≤ w.heap.size := by
  have := World.block_lt_of_cell? _ _ (h 0 (by omega))
  exact this
theorem Tab.below {w w' : World} {B : Nat} (h : Tab w) (hb : Below B w w') (hB : 1 ≤ B) : Tab w' :=
  fun j hj => (hb.cell (p := ⟨0, j, none⟩) (by show 0 < B; omega)).trans (h j hj)
theorem Tab.alloc {w : World} (h : Tab w) (o : Obj) : Tab (w.alloc o) :=
  h.below (B := w.heap.size) ((Below.refl _ _).alloc (Nat.le_refl _) _) h.pos

/-- A token as a value. -/
def tokv (k : Int) (t : ByteArray) (v at_ : Int) : Value := .agg #[.int .i64 k, .string t, .int .i64 v, .int .i64 at_]

set_option maxHeartbeats 400000 in
theorem scanName_err (s : ByteArray) (i : Int) (w : World) (hs : s.size ≤ maxLen) (hi : 0 ≤ i) (hi2 : i ≤ s.size) (hT : Tab w) (hc : rend s i.toNat 7 - i.toNat > 16) :
    Calls Tryd.prog 22 #[.string s, .int .i64 i] w fun e w' => e = .returned (.tuple #[tokv 0 ⟨#[]⟩ 0 0, .int .i64 2]) ∧ Below w.heap.size w w' := by
  unfold maxLen at hs
  obtain ⟨i, rfl⟩ := Int.eq_ofNat_of_zero_le hi
  rw [Int.toNat_natCast] at hc
  have HT := Lib.hid hT
  have h1 := rend_ge s i 7
  have h2 := rend_le s i 7 (by omega)
  clear hi hT
  go_enter Tryd.func22, Tryd.ntmps22
  go_wp2_with (go_at_call 25; go_must (refine (runEnd_any s _ 7 _ (by unfold maxLen; omega) (by omega) (HT.out.alloc _)).mono ?_); rintro e w' ⟨rfl, rfl⟩; rw [Int.toNat_natCast])
  exact bodyPost_ret (v := .tuple #[tokv 0 ⟨#[]⟩ 0 0, .int .i64 2]) (by simp [results, Tryd.results22, go_sem, tokv]) rfl ⟨rfl, (Below.refl _ _).alloc (Nat.le_refl _) _⟩
set_option maxHeartbeats 400000 in
theorem scanName_ok (s : ByteArray) (i : Int) (w : World) (hs : s.size ≤ maxLen) (hi : 0 ≤ i) (hi2 : i ≤ s.size) (hT : Tab w) (hc : ¬ rend s i.toNat 7 - i.toNat > 16) :
    Calls Tryd.prog 22 #[.string s, .int .i64 i] w fun e w' => e = .returned (.tuple #[tokv 1 (s.extract i.toNat (rend s i.toNat 7)) 0 i, .int .i64 0]) ∧ Below w.heap.size w w' := by
  unfold maxLen at hs
  obtain ⟨i, rfl⟩ := Int.eq_ofNat_of_zero_le hi
  rw [Int.toNat_natCast] at hc
  have HT := Lib.hid hT
  have h1 := rend_ge s i 7
  have h2 := rend_le s i 7 (by omega)
  clear hi hT
  go_enter Tryd.func22, Tryd.ntmps22
  go_wp2_with (go_at_call 25; go_must (refine (runEnd_any s _ 7 _ (by unfold maxLen; omega) (by omega) (HT.out.alloc _)).mono ?_); rintro e w' ⟨rfl, rfl⟩; rw [Int.toNat_natCast])
  exact bodyPost_ret (v := .tuple #[tokv 1 (s.extract i (rend s i 7)) 0 i, .int .i64 0]) (by simp [results, Tryd.results22, go_sem, tokv]) rfl ⟨by rw [Int.toNat_natCast], (Below.refl _ _).alloc (Nat.le_refl _) _⟩

/-- A symbol of two bytes begins at an offset. -/
def two (s : ByteArray) (i : Nat) : Bool := match s.data.toList.drop i with
  | c :: d :: _ => (((c.toNat : Int) == 60) || ((c.toNat : Int) == 62)) && ((d.toNat : Int) == 61)
  | _ => false
theorem two_in {s : ByteArray} {i : Nat} (h1 : i + 1 < s.size) (x y z : Bool) (hx : ((s[i].toNat : Int) == 60) = x) (hy : ((s[i].toNat : Int) == 62) = y) (hz : ((s[i+1].toNat : Int) == 61) = z) : two s i = ((x || y) && z) := by
  unfold two; rw [drop_kd (by omega : i < s.size), drop_kd h1, ← hx, ← hy, ← hz]
theorem two_out {s : ByteArray} {i : Nat} (h1 : ¬ i + 1 < s.size) : two s i = false := by
  unfold two
  split
  · rename_i h
    have := congrArg List.length h
    have h0 : s.data.size = s.size := rfl
    simp at this; omega
  · rfl
set_option maxHeartbeats 1000000 in
theorem scanSymbol_two (s : ByteArray) (i : Nat) (w : World) (_hs : s.size ≤ 2 ^ 63 - 1) (h1 : i + 1 < s.size) (x y : Bool) (hx : ((s[i].toNat : Int) == 60) = x) (hy : ((s[i].toNat : Int) == 62) = y) (hz : ((s[i+1].toNat : Int) == 61) = true) (ho : (x || y) = true) :
    Calls Tryd.prog 24 #[.string s, .int .i64 i] w fun e w' => e = .returned (.tuple #[tokv 3 (s.extract i (i + 2)) 0 i, .int .i64 0]) ∧ Below w.heap.size w w' := by
  cases x
  · have ht : y = true := by simpa using ho
    subst ht
    clear ho
    go_enter Tryd.func24, Tryd.ntmps24
    go_wp2
    exact bodyPost_ret (v := .tuple #[tokv 3 (s.extract i (i + 2)) 0 i, .int .i64 0]) (by simp [results, Tryd.results24, go_sem, tokv]) rfl ⟨rfl, (Below.refl _ _).alloc (Nat.le_refl _) _⟩
  · clear ho
    go_enter Tryd.func24, Tryd.ntmps24
    go_wp2
    exact bodyPost_ret (v := .tuple #[tokv 3 (s.extract i (i + 2)) 0 i, .int .i64 0]) (by simp [results, Tryd.results24, go_sem, tokv]) rfl ⟨rfl, (Below.refl _ _).alloc (Nat.le_refl _) _⟩
set_option maxHeartbeats 1000000 in
theorem scanSymbol_one (s : ByteArray) (i : Nat) (w : World) (_hs : s.size ≤ 2 ^ 63 - 1) (h1 : i + 1 < s.size) (x y : Bool) (hx : ((s[i].toNat : Int) == 60) = x) (hy : ((s[i].toNat : Int) == 62) = y) (hz : ((s[i+1].toNat : Int) == 61) = false) (ho : (x || y) = true) :
    Calls Tryd.prog 24 #[.string s, .int .i64 i] w fun e w' => e = .returned (.tuple #[tokv 3 (s.extract i (i + 1)) 0 i, .int .i64 0]) ∧ Below w.heap.size w w' := by
  cases x
  · have ht : y = true := by simpa using ho
    subst ht
    clear ho
    go_enter Tryd.func24, Tryd.ntmps24
    go_wp2
    exact bodyPost_ret (v := .tuple #[tokv 3 (s.extract i (i + 1)) 0 i, .int .i64 0]) (by simp [results, Tryd.results24, go_sem, tokv]) rfl ⟨rfl, (Below.refl _ _).alloc (Nat.le_refl _) _⟩
  · clear ho
    go_enter Tryd.func24, Tryd.ntmps24
    go_wp2
    exact bodyPost_ret (v := .tuple #[tokv 3 (s.extract i (i + 1)) 0 i, .int .i64 0]) (by simp [results, Tryd.results24, go_sem, tokv]) rfl ⟨rfl, (Below.refl _ _).alloc (Nat.le_refl _) _⟩
set_option maxHeartbeats 1000000 in
theorem scanSymbol_end (s : ByteArray) (i : Nat) (w : World) (_hs : s.size ≤ 2 ^ 63 - 1) (hi : i < s.size) (h1 : ¬ i + 1 < s.size) (x y : Bool) (hx : ((s[i].toNat : Int) == 60) = x) (hy : ((s[i].toNat : Int) == 62) = y) (ho : (x || y) = true) :
    Calls Tryd.prog 24 #[.string s, .int .i64 i] w fun e w' => e = .returned (.tuple #[tokv 3 (s.extract i (i + 1)) 0 i, .int .i64 0]) ∧ Below w.heap.size w w' := by
  cases x
  · have ht : y = true := by simpa using ho
    subst ht
    clear ho
    go_enter Tryd.func24, Tryd.ntmps24
    go_wp2
    exact bodyPost_ret (v := .tuple #[tokv 3 (s.extract i (i + 1)) 0 i, .int .i64 0]) (by simp [results, Tryd.results24, go_sem, tokv]) rfl ⟨rfl, (Below.refl _ _).alloc (Nat.le_refl _) _⟩
  · clear ho
    go_enter Tryd.func24, Tryd.ntmps24
    go_wp2
    exact bodyPost_ret (v := .tuple #[tokv 3 (s.extract i (i + 1)) 0 i, .int .i64 0]) (by simp [results, Tryd.results24, go_sem, tokv]) rfl ⟨rfl, (Below.refl _ _).alloc (Nat.le_refl _) _⟩
set_option maxHeartbeats 1000000 in
theorem scanSymbol_no (s : ByteArray) (i : Nat) (w : World) (_hs : s.size ≤ 2 ^ 63 - 1) (hi : i < s.size) (hx : ((s[i].toNat : Int) == 60) = false) (hy : ((s[i].toNat : Int) == 62) = false) :
    Calls Tryd.prog 24 #[.string s, .int .i64 i] w fun e w' => e = .returned (.tuple #[tokv 3 (s.extract i (i + 1)) 0 i, .int .i64 0]) ∧ Below w.heap.size w w' := by
  go_enter Tryd.func24, Tryd.ntmps24
  go_wp2
  exact bodyPost_ret (v := .tuple #[tokv 3 (s.extract i (i + 1)) 0 i, .int .i64 0]) (by simp [results, Tryd.results24, go_sem, tokv]) rfl ⟨rfl, (Below.refl _ _).alloc (Nat.le_refl _) _⟩
theorem scanSymbol_any (s : ByteArray) (i : Int) (w : World) (hs : s.size ≤ maxLen) (hi : 0 ≤ i) (hi2 : i < s.size) :
    Calls Tryd.prog 24 #[.string s, .int .i64 i] w fun e w' => e = .returned (.tuple #[tokv 3 (s.extract i.toNat (i.toNat + if two s i.toNat then 2 else 1)) 0 i, .int .i64 0]) ∧ Below w.heap.size w w' := by
  unfold maxLen at hs
  obtain ⟨i, rfl⟩ := Int.eq_ofNat_of_zero_le hi
  rw [Int.toNat_natCast]
  have hi3 : i < s.size := by omega
  clear hi
  cases hx : ((s[i].toNat : Int) == 60) <;> cases hy : ((s[i].toNat : Int) == 62)
  · have ht : two s i = false := by
      by_cases h1 : i + 1 < s.size
      · rw [two_in h1 _ _ _ hx hy rfl]; rfl
      · exact two_out h1
    rw [ht]
    exact scanSymbol_no s i w hs hi3 hx hy
  all_goals
    by_cases h1 : i + 1 < s.size
    · cases hz : ((s[i+1].toNat : Int) == 61)
      · rw [two_in h1 _ _ _ hx hy hz]; exact scanSymbol_one s i w hs h1 _ _ hx hy hz rfl
      · rw [two_in h1 _ _ _ hx hy hz]; exact scanSymbol_two s i w hs h1 _ _ hx hy hz rfl
    · rw [two_out h1]; exact scanSymbol_end s i w hs hi3 h1 _ _ hx hy rfl
end Go.Proofs.YtaokedpcijmncaaDoor
