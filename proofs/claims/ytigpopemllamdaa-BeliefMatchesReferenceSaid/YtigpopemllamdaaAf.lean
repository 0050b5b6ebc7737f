/- Beliefs: lists of numbers of one's own are sorted, made compact, compared. -/
import Derived.Test.YtigpopemllamdaaAe
import Derived.Test.YtigpopemllamdaaAb
import Derived.Sort.OwnSortedInts
namespace Go.Proofs.Ytigpopemllamdaa
open Go.RowKit Go.Sort

theorem below_grown {w w' : World} {B g : Nat} (hg : B ≤ g) (h : w.grownBy w' (some g)) (hB : B ≤ w.heap.size) : Below B w w' :=
  (Below.refl B w).grown h hB (fun k e => by cases e; exact hg)
theorem sort_own (v : Value) (B : Nat) (zs : List Int) (w : World) (h : w.ownsRow B 3 1 v zs.length (zs.map (Value.int .i64))) (h9 : zs.length ≤ 100000) :
    Calls Try.prog 71 #[v] w fun e w' => e = .returned (.tuple #[]) ∧ w'.ownsRow B 3 1 v zs.length ((zs.mergeSort fun x y => decide (x ≤ y)).map (Value.int .i64)) ∧ Below B w w' := by
  rcases h.2 with ⟨rfl, h0⟩ | ⟨g, cap, cur, rfl, h1, h2, h3, h4, h5, h6⟩
  · have hz : zs = [] := List.length_eq_zero_iff.1 h0
    subst hz
    refine (AnyM.slices_Sort_int_none Try.lsort none 0 w).mono ?_
    rintro e w' ⟨rfl, rfl⟩
    exact ⟨rfl, by simpa using h, Below.refl _ _⟩
  · have hb : g < w.heap.size := (Array.getElem?_eq_some_iff.1 h2).1
    rw [Nat.mul_one] at h6
    refine (AnyM.slices_Sort_int Try.lsort g 0 cap zs w (holds_of_blockI h2 h6) hb (by omega)).mono ?_
    rintro e w' ⟨rfl, n, os, rfl⟩
    exact ⟨rfl, ownsRow_sortedI (ss := zs) (by simp) h1 h2 h3 h4 h5, below_grown h1 (grownBy_sortedI _) (by omega)⟩
theorem compact_len (zs : List Int) : (Lib.compact zs).length ≤ zs.length := by
  unfold Lib.compact Lib.compactUpTo
  rw [List.length_map]
  exact Nat.le_trans (List.length_filter_le _ _) (by simp)
theorem compact_own (v : Value) (B : Nat) (zs : List Int) (w : World) (h : w.ownsRow B 3 1 v zs.length (zs.map (Value.int .i64))) (h9 : zs.length ≤ 100000) :
    Calls Try.prog 72 #[v] w fun e w' => ∃ u, e = .returned u ∧ w'.ownsRow B 3 1 u (Lib.compact zs).length ((Lib.compact zs).map (Value.int .i64)) ∧ Below B w w' := by
  rcases h.2 with ⟨rfl, h0⟩ | ⟨g, cap, cur, rfl, h1, h2, h3, h4, h5, h6⟩
  · have hz : zs = [] := List.length_eq_zero_iff.1 h0
    subst hz
    refine (AnyG.slices_Compact_int_empty Try.lcompact none 0 w).mono ?_
    rintro e w' ⟨rfl, rfl⟩
    exact ⟨_, rfl, h, Below.refl _ _⟩
  · have hb : g < w.heap.size := (Array.getElem?_eq_some_iff.1 h2).1
    rw [Nat.mul_one] at h6
    refine (AnyG.slices_Compact_int Try.lcompact g 0 cap zs w (holds_of_blockI h2 h6) (by omega) h3).mono ?_
    rintro e w' ⟨rfl, q, rfl⟩
    have hl := compact_len zs
    have e0 := grow_empty (putRow (Value.int .i64) (Sort.ahead w q) g 0 (Lib.compact zs ++ List.replicate (zs.length - (Lib.compact zs).length) 0).toArray)
    have ht : (Lib.compact zs ++ List.replicate (zs.length - (Lib.compact zs).length) (0 : Int)).length = zs.length := by rw [List.length_append, List.length_replicate]; omega
    refine ⟨_, rfl, ?_, ?_⟩
    · rw [← e0]
      refine ⟨by simp, .inr ⟨g, cap, _, rfl, h1, heap_sortedI _ h2, by omega, h4, by simp [putCells, h5], ?_⟩⟩
      have hx := take_putCellsI cur (Lib.compact zs ++ List.replicate (zs.length - (Lib.compact zs).length) 0) (by rw [ht]; omega)
      have hy := congrArg (List.take (Lib.compact zs).length) hx
      rw [List.take_take, Nat.min_eq_left (by rw [ht]; omega), List.map_append, List.take_append_of_le_length (by simp)] at hy
      rw [Nat.mul_one]
      exact hy.trans (List.take_of_length_le (by simp))
    · rw [← e0]
      exact below_grown h1 (grownBy_sortedI _) (by omega)
theorem contains_own (v : Value) (zs : List Int) (x : Int) (w : World) (h : IntsAt w v zs) (h9 : zs.length ≤ 100000) :
    Calls Try.prog 47 #[v, .int .i64 x] w fun e w' => e = .returned (.bool (zs.contains x)) ∧ w' = w := by
  obtain ⟨a, cap, rfl, -, hc⟩ := h
  cases zs with
  | nil => exact (AnyG.slices_Contains_int_empty Try.lcontains a cap x w).mono fun e w' h => h
  | cons y ys =>
    obtain ⟨b, off, rfl, hx⟩ := hc (by simp)
    have := AnyG.slices_Contains_int Try.lcontains b off (y :: ys).length cap (y :: ys) x w (Nat.le_refl _) (by omega) (fun j hj => hx j _ (getD_of hj))
    rw [List.take_length] at this
    exact this
theorem equal_own (u v : Value) (xs ys : List Int) (w : World) (h1 : IntsAt w u xs) (h2 : IntsAt w v ys) (h9 : xs.length ≤ 100000) (h8 : ys.length ≤ 100000) :
    Calls Try.prog 68 #[u, v] w fun e w' => e = .returned (.bool (xs == ys)) ∧ Below w.heap.size w w' := by
  obtain ⟨a, cap, rfl, -, hc⟩ := h1
  obtain ⟨a2, cap2, rfl, -, hc2⟩ := h2
  cases xs with
  | nil =>
    refine (AnyG.slices_Equal_int_empty Try.lequal a a2 cap ys.length cap2 w (by omega)).mono ?_
    rintro e w' ⟨rfl, rfl⟩
    exact ⟨by cases ys <;> simp, Below.refl _ _⟩
  | cons x xs =>
    obtain ⟨b, off, rfl, hx⟩ := hc (by simp)
    cases ys with
    | nil =>
      have e1 : ((xs.length + 1 : Nat) : Int) ≠ (([] : List Int).length : Int) := by simp; omega
      have e2 : (((xs.length + 1 : Nat) : Int) == (([] : List Int).length : Int)) = false := by simpa using e1
      simp only [List.length_cons]
      go_enter Try.func68, Try.ntmps68
      go_wp2
      go_ret
      exact ⟨by first | rfl | simp, by first | exact Below.refl _ _ | exact below_drew _ _⟩
    | cons y ys =>
      obtain ⟨b2, off2, rfl, hx2⟩ := hc2 (by simp)
      refine (AnyG.slices_Equal_int Try.lequal b off (x :: xs).length cap b2 off2 (y :: ys).length cap2 (x :: xs) (y :: ys) w (Nat.le_refl _) (Nat.le_refl _) (by omega) (by omega) (fun j hj => hx j _ (getD_of hj)) (fun j hj => hx2 j _ (getD_of hj))).mono ?_
      rintro e w' ⟨rfl, q, rfl⟩
      rw [List.take_length, List.take_length]
      exact ⟨rfl, below_drewN' _ _ _⟩
end Go.Proofs.Ytigpopemllamdaa
