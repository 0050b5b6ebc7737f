/- The contracts of 'both', 'Compare', 'Canonical', 'Add', 'Seconds', 'Energy'. -/
import Derived.Test.YtbmmmhjgidffpaaDoorB
import Derived.ChangeAlike
import Derived.RegionTactic
namespace Go.Proofs.YtbmmmhjgidffpaaDoor
open Go.RowKit

theorem cell_new' (w : World) (cs : Array Value) (t : TypeId) (n : Nat) (hn : n = w.heap.size) (j : Nat) : (w.alloc (.cells cs t)).cell? ⟨n, j, none⟩ = cs[j]? := by
  subst hn; simp
theorem amounts_new (t1 : Int) (s1 : ByteArray) (t2 : Int) (s2 : ByteArray) (n : Nat) (w : World) (hT : Tab w) (hn : n = w.heap.size) :
    Calls Tryd.prog 36 #[.slice (some ⟨n, 0, none⟩) 2 2] (w.alloc (.cells #[.int .i64 t1, .string s1, .int .i64 t2, .string s2] 23)) fun e w' => AmPost t1 s1 t2 s2 (w.alloc (.cells #[.int .i64 t1, .string s1, .int .i64 t2, .string s2] 23)) e w' :=
  amounts_any t1 s1 t2 s2 n _ (hT.alloc _) (cell_new' _ _ _ _ hn 0) (cell_new' _ _ _ _ hn 1) (cell_new' _ _ _ _ hn 2) (cell_new' _ _ _ _ hn 3)

/-- The error of two quantities that must have one dimension. -/
def pE (t1 : Int) (s1 : ByteArray) (t2 : Int) (s2 : ByteArray) : Int := if aE t1 s1 t2 s2 = 0 then (if bD t1 s1 = bD t2 s2 then 0 else 10) else aE t1 s1 t2 s2
theorem bl5 {w w1 : World} {o1 o2 o3 o4 o5 : Obj} (hb : Below (((((w.alloc o1).alloc o2).alloc o3).alloc o4).alloc o5).heap.size (((((w.alloc o1).alloc o2).alloc o3).alloc o4).alloc o5) w1) :
    Below (w.heap.size + 4) ((((w.alloc o1).alloc o2).alloc o3).alloc o4) w1 := by
  have := bl1 hb
  simpa [Nat.add_assoc] using this
theorem bl4 {w w1 : World} {o1 o2 o3 o4 : Obj} (hb : Below (w.heap.size + 4) ((((w.alloc o1).alloc o2).alloc o3).alloc o4) w1) : Below w.heap.size w w1 :=
  (((((Below.refl _ _).alloc (Nat.le_refl _) _).alloc (by simp) _).alloc (by simp; omega) _).alloc (by simp; omega) _).trans (hb.mono (by omega))
theorem two_old {w w1 : World} {B n : Nat} {x y : Value} (hb : Below B w w1) (hn : n < B) (h0 : w.cell? ⟨n, 0, none⟩ = some x) (h1 : w.cell? ⟨n, 1, none⟩ = some y) (f : ∀ j, w.frozen? ⟨n, j, none⟩ = false) :
    (w1.cell? ⟨n, 0, none⟩ = some x ∧ w1.frozen? ⟨n, 0, none⟩ = false) ∧ (w1.cell? ⟨n, 1, none⟩ = some y ∧ w1.frozen? ⟨n, 1, none⟩ = false) :=
  ⟨⟨(hb.cell (p := ⟨n, 0, none⟩) hn).trans h0, (hb.frozen (p := ⟨n, 0, none⟩) hn).trans (f 0)⟩, ⟨(hb.cell (p := ⟨n, 1, none⟩) hn).trans h1, (hb.frozen (p := ⟨n, 1, none⟩) hn).trans (f 1)⟩⟩
theorem frozen_new (w : World) (cs : Array Value) (t : TypeId) (j : Nat) : (w.alloc (.cells cs t)).frozen? ⟨w.heap.size, j, none⟩ = false := by
  have := heap_alloc_new w (.cells cs t); simp only [World.frozen?, this]; simp
theorem frozen_past (w : World) (o : Obj) (n j : Nat) (h : n < w.heap.size) : (w.alloc o).frozen? ⟨n, j, none⟩ = w.frozen? ⟨n, j, none⟩ :=
  ((Below.refl w.heap.size w).alloc (Nat.le_refl _) o).frozen (p := ⟨n, j, none⟩) h
/-- Two cells of a block that was new, later. -/
def Two (w : World) (n : Nat) (x y : Value) : Prop := (w.cell? ⟨n, 0, none⟩ = some x ∧ w.frozen? ⟨n, 0, none⟩ = false) ∧ (w.cell? ⟨n, 1, none⟩ = some y ∧ w.frozen? ⟨n, 1, none⟩ = false)
theorem two_both {w w1 : World} {o1 o2 : Obj} {x y x' y' : Value} {t t' : TypeId} (hb : Below (w.heap.size + 4) ((((w.alloc o1).alloc o2).alloc (.cells #[x, y] t)).alloc (.cells #[x', y'] t')) w1) :
    Two w1 (w.heap.size + 2) x y ∧ Two w1 (w.heap.size + 3) x' y' := by
  have e2 : w.heap.size + 2 = ((w.alloc o1).alloc o2).heap.size := by simp
  have e3 : w.heap.size + 3 = (((w.alloc o1).alloc o2).alloc (.cells #[x, y] t)).heap.size := by simp
  constructor
  · refine two_old hb (by omega) ?_ ?_ ?_
    · rw [World.cell?_alloc_past _ _ _ (by simp), e2, World.cell?_alloc_new]; rfl
    · rw [World.cell?_alloc_past _ _ _ (by simp), e2, World.cell?_alloc_new]; rfl
    · intro j; rw [frozen_past _ _ _ _ (by simp), e2]; exact frozen_new _ _ _ _
  · refine two_old hb (by omega) ?_ ?_ ?_
    · rw [e3, World.cell?_alloc_new]; rfl
    · rw [e3, World.cell?_alloc_new]; rfl
    · intro j; rw [e3]; exact frozen_new _ _ _ _

set_option maxRecDepth 100000 in
set_option maxHeartbeats 1000000 in
theorem both_err (t1 : Int) (s1 : ByteArray) (t2 : Int) (s2 : ByteArray) (w : World) (hT : Tab w) (h : aE t1 s1 t2 s2 ≠ 0) :
    Calls Tryd.prog 32 #[.agg #[.int .i64 t1, .string s1], .agg #[.int .i64 t2, .string s2]] w fun e w' => e = .returned (.tuple #[.agg #[.int .i64 0, .int .i64 0], .agg #[.int .i64 0, .int .i64 0], .int .i64 (aE t1 s1 t2 s2)]) ∧ Below w.heap.size w w' := by
  have HT := Lib.hid hT
  have hp := hT.pos
  have he1 : (aE t1 s1 t2 s2 != 0) = true := by simpa using h
  go_enter Tryd.func32, Tryd.ntmps32
  go_wp2_with fail
  refine (amounts_new t1 s1 t2 s2 _ _ ((((HT.out.alloc _).alloc _).alloc _).alloc _) (by simp)).mono ?_
  rintro e w1 ⟨⟨h1, rfl⟩ | ⟨h1, _⟩, hb⟩
  · have hb5 := bl5 hb
    have HB := Lib.hid (bl4 hb5)
    have htw := two_both hb5
    have hz : w.heap.size + 4 ≤ w1.heap.size := Nat.le_trans (by simp) hb5.size
    obtain ⟨⟨⟨c0, f0⟩, ⟨c1, f1⟩⟩, ⟨⟨d0, g0⟩, ⟨d1, g1⟩⟩⟩ := htw
    clear hb hb5 h1 h hT
    go_wp2
    exact bodyPost_ret (v := .tuple #[.agg #[.int .i64 0, .int .i64 0], .agg #[.int .i64 0, .int .i64 0], .int .i64 (aE t1 s1 t2 s2)]) (by simp [results, Tryd.results32, go_sem, c0, c1, d0, d1]) rfl ⟨rfl, (((HB.out.setCell (by simp; omega) _).setCell (by simp; omega) _).setCell (by simp; omega) _).setCell (by simp; omega) _⟩
  · exact absurd h1 h
set_option maxRecDepth 100000 in
set_option maxHeartbeats 1000000 in
theorem both_type (t1 : Int) (s1 : ByteArray) (t2 : Int) (s2 : ByteArray) (w : World) (hT : Tab w) (h : aE t1 s1 t2 s2 = 0) (hd : bD t1 s1 ≠ bD t2 s2) :
    Calls Tryd.prog 32 #[.agg #[.int .i64 t1, .string s1], .agg #[.int .i64 t2, .string s2]] w fun e w' => e = .returned (.tuple #[.agg #[.int .i64 0, .int .i64 0], .agg #[.int .i64 0, .int .i64 0], .int .i64 10]) ∧ Below w.heap.size w w' := by
  have HT := Lib.hid hT
  have hp := hT.pos
  have hd1 : (bD t1 s1 != bD t2 s2) = true := by simpa using hd
  go_enter Tryd.func32, Tryd.ntmps32
  have HA := Lib.hid h
  clear h
  go_wp2_with fail
  refine (amounts_new t1 s1 t2 s2 _ _ ((((HT.out.alloc _).alloc _).alloc _).alloc _) (by simp)).mono ?_
  rintro e w1 ⟨⟨h1, _⟩ | ⟨_, g, cap, rfl, hg0, hg1, k0, k1, k2, k3⟩, hb⟩
  · exact absurd HA.out h1
  · have hb5 := bl5 hb
    have HB := Lib.hid (bl4 hb5)
    have htw := two_both hb5
    have hz : w.heap.size + 4 ≤ w1.heap.size := Nat.le_trans (by simp) hb5.size
    obtain ⟨⟨⟨c0, f0⟩, ⟨c1, f1⟩⟩, ⟨⟨d0, g0⟩, ⟨d1, g1⟩⟩⟩ := htw
    clear hb hb5 hT hd
    go_wp2
    go_quiet (fail)
    go_wp2
    exact bodyPost_ret (v := .tuple #[.agg #[.int .i64 0, .int .i64 0], .agg #[.int .i64 0, .int .i64 0], .int .i64 10]) (by simp [results, Tryd.results32, go_sem, c0, c1, d0, d1]) rfl ⟨rfl, (((((HB.out.trans (below_drewN' _ _ _)).setCell (by simp; omega) _).setCell (by simp; omega) _).setCell (by simp; omega) _).setCell (by simp; omega) _)⟩
set_option maxRecDepth 100000 in
set_option maxHeartbeats 1000000 in
theorem both_ok (t1 : Int) (s1 : ByteArray) (t2 : Int) (s2 : ByteArray) (w : World) (hT : Tab w) (h : aE t1 s1 t2 s2 = 0) (hd : bD t1 s1 = bD t2 s2) :
    Calls Tryd.prog 32 #[.agg #[.int .i64 t1, .string s1], .agg #[.int .i64 t2, .string s2]] w fun e w' => e = .returned (.tuple #[.agg #[.int .i64 (bD t1 s1), .int .i64 (bV t1 s1)], .agg #[.int .i64 (bD t2 s2), .int .i64 (bV t2 s2)], .int .i64 0]) ∧ Below w.heap.size w w' := by
  have HT := Lib.hid hT
  have hp := hT.pos
  have hd1 : (bD t1 s1 != bD t2 s2) = false := by simpa using hd
  go_enter Tryd.func32, Tryd.ntmps32
  have HA := Lib.hid h
  clear h hd
  go_wp2_with fail
  refine (amounts_new t1 s1 t2 s2 _ _ ((((HT.out.alloc _).alloc _).alloc _).alloc _) (by simp)).mono ?_
  rintro e w1 ⟨⟨h1, _⟩ | ⟨_, g, cap, rfl, hg0, hg1, k0, k1, k2, k3⟩, hb⟩
  · exact absurd HA.out h1
  · have hb5 := bl5 hb
    have HB := Lib.hid (bl4 hb5)
    have htw := two_both hb5
    have hz : w.heap.size + 4 ≤ w1.heap.size := Nat.le_trans (by simp) hb5.size
    have hgn : w.heap.size + 4 < g := by have := hg0; simp at this; omega
    obtain ⟨⟨⟨c0, f0⟩, ⟨c1, f1⟩⟩, ⟨⟨d0, g0⟩, ⟨d1, g1⟩⟩⟩ := htw
    clear hb hb5 hT
    go_wp2
    go_quiet (fail)
    go_wp2
    go_region
    go_wp2
    exact bodyPost_ret (v := .tuple #[.agg #[.int .i64 (bD t1 s1), .int .i64 (bV t1 s1)], .agg #[.int .i64 (bD t2 s2), .int .i64 (bV t2 s2)], .int .i64 0]) (by simp [results, Tryd.results32, go_sem, c0, c1, d0, d1]) rfl ⟨rfl, (((((HB.out.trans (below_drewN' _ _ _)).setCell (by simp; omega) _).setCell (by simp; omega) _).setCell (by simp; omega) _).setCell (by simp; omega) _)⟩
/-- What 'both' gives of the dimension and the value. -/
theorem both_pE0 {t1 : Int} {s1 : ByteArray} {t2 : Int} {s2 : ByteArray} (h : pE t1 s1 t2 s2 = 0) : aE t1 s1 t2 s2 = 0 ∧ bD t1 s1 = bD t2 s2 := by
  unfold pE at h; split at h
  · split at h
    · exact ⟨‹_›, ‹_›⟩
    · omega
  · exact absurd h ‹_›
theorem both_no (t1 : Int) (s1 : ByteArray) (t2 : Int) (s2 : ByteArray) (w : World) (hT : Tab w) (h : pE t1 s1 t2 s2 ≠ 0) :
    Calls Tryd.prog 32 #[.agg #[.int .i64 t1, .string s1], .agg #[.int .i64 t2, .string s2]] w fun e w' => e = .returned (.tuple #[.agg #[.int .i64 0, .int .i64 0], .agg #[.int .i64 0, .int .i64 0], .int .i64 (pE t1 s1 t2 s2)]) ∧ Below w.heap.size w w' := by
  by_cases ha : aE t1 s1 t2 s2 = 0
  · by_cases hd : bD t1 s1 = bD t2 s2
    · exact absurd (by unfold pE; rw [if_pos ha, if_pos hd]) h
    · have : pE t1 s1 t2 s2 = 10 := by unfold pE; rw [if_pos ha, if_neg hd]
      rw [this]; exact both_type t1 s1 t2 s2 w hT ha hd
  · have : pE t1 s1 t2 s2 = aE t1 s1 t2 s2 := by unfold pE; rw [if_neg ha]
    rw [this]; exact both_err t1 s1 t2 s2 w hT ha
theorem both_yes (t1 : Int) (s1 : ByteArray) (t2 : Int) (s2 : ByteArray) (w : World) (hT : Tab w) (h : pE t1 s1 t2 s2 = 0) :
    Calls Tryd.prog 32 #[.agg #[.int .i64 t1, .string s1], .agg #[.int .i64 t2, .string s2]] w fun e w' => e = .returned (.tuple #[.agg #[.int .i64 (bD t1 s1), .int .i64 (bV t1 s1)], .agg #[.int .i64 (bD t2 s2), .int .i64 (bV t2 s2)], .int .i64 0]) ∧ Below w.heap.size w w' :=
  both_ok t1 s1 t2 s2 w hT (both_pE0 h).1 (both_pE0 h).2

theorem bl2 {w w1 : World} {o1 o2 : Obj} (hb : Below ((w.alloc o1).alloc o2).heap.size ((w.alloc o1).alloc o2) w1) : Below w.heap.size w w1 :=
  (((Below.refl _ _).alloc (Nat.le_refl _) _).alloc (by simp) _).trans (hb.mono (by simp; omega))
theorem bl2_lt {w w1 : World} {o1 o2 : Obj} (hb : Below ((w.alloc o1).alloc o2).heap.size ((w.alloc o1).alloc o2) w1) : w.heap.size + 1 < w1.heap.size := Nat.lt_of_lt_of_le (by simp) hb.size
/-- What 'Compare' gives. -/
def cmp (x y : Int) : Int := if x < y then -1 else if y < x then 1 else 0
def cV (t1 : Int) (s1 : ByteArray) (t2 : Int) (s2 : ByteArray) : Int := if pE t1 s1 t2 s2 = 0 then cmp (bV t1 s1) (bV t2 s2) else 0
set_option maxRecDepth 100000 in
set_option maxHeartbeats 1000000 in
theorem compare_any (t1 : Int) (s1 : ByteArray) (t2 : Int) (s2 : ByteArray) (w : World) (hT : Tab w) :
    Calls Tryd.prog 14 #[.agg #[.int .i64 t1, .string s1], .agg #[.int .i64 t2, .string s2]] w fun e w' => e = .returned (.tuple #[.int .i64 (cV t1 s1 t2 s2), .int .i64 (pE t1 s1 t2 s2)]) ∧ Below w.heap.size w w' := by
  have HT := Lib.hid hT
  by_cases h : pE t1 s1 t2 s2 = 0
  · have HV := Lib.hid (show cV t1 s1 t2 s2 = cmp (bV t1 s1) (bV t2 s2) by unfold cV; rw [if_pos h])
    have HP := Lib.hid h
    clear h
    by_cases h1 : bV t1 s1 < bV t2 s2
    · have HC := Lib.hid (show cmp (bV t1 s1) (bV t2 s2) = -1 by unfold cmp; rw [if_pos h1])
      have h1' : decide (bV t1 s1 < bV t2 s2) = true := by simpa using h1
      go_enter Tryd.func14, Tryd.ntmps14
      go_wp2_with (go_at_call 32; go_must (refine (both_yes t1 s1 t2 s2 _ ((HT.out.alloc _).alloc _) HP.out).mono ?_); rintro e w1 ⟨rfl, b1⟩)
      go_ret2
      exact ⟨by rw [HV.out, HC.out, HP.out]; rfl, ((bl2 b1).alloc (by have := bl2_lt b1; omega) _).alloc (by have := bl2_lt b1; simp; omega) _⟩
    · by_cases h2 : bV t2 s2 < bV t1 s1
      · have HC := Lib.hid (show cmp (bV t1 s1) (bV t2 s2) = 1 by unfold cmp; rw [if_neg h1, if_pos h2])
        have h1' : decide (bV t1 s1 < bV t2 s2) = false := by simpa using h1
        have h2' : decide (bV t2 s2 < bV t1 s1) = true := by simpa using h2
        go_enter Tryd.func14, Tryd.ntmps14
        go_wp2_with (go_at_call 32; go_must (refine (both_yes t1 s1 t2 s2 _ ((HT.out.alloc _).alloc _) HP.out).mono ?_); rintro e w1 ⟨rfl, b1⟩)
        go_ret2
        exact ⟨by rw [HV.out, HC.out, HP.out]; rfl, ((bl2 b1).alloc (by have := bl2_lt b1; omega) _).alloc (by have := bl2_lt b1; simp; omega) _⟩
      · have HC := Lib.hid (show cmp (bV t1 s1) (bV t2 s2) = 0 by unfold cmp; rw [if_neg h1, if_neg h2])
        have h1' : decide (bV t1 s1 < bV t2 s2) = false := by simpa using h1
        have h2' : decide (bV t2 s2 < bV t1 s1) = false := by simpa using h2
        go_enter Tryd.func14, Tryd.ntmps14
        go_wp2_with (go_at_call 32; go_must (refine (both_yes t1 s1 t2 s2 _ ((HT.out.alloc _).alloc _) HP.out).mono ?_); rintro e w1 ⟨rfl, b1⟩)
        go_ret2
        exact ⟨by rw [HV.out, HC.out, HP.out]; rfl, ((bl2 b1).alloc (by have := bl2_lt b1; omega) _).alloc (by have := bl2_lt b1; simp; omega) _⟩
  · have HV := Lib.hid (show cV t1 s1 t2 s2 = 0 by unfold cV; rw [if_neg h])
    have h1 : (pE t1 s1 t2 s2 != 0) = true := by simpa using h
    have HP := Lib.hid h
    clear h
    go_enter Tryd.func14, Tryd.ntmps14
    go_wp2_with (go_at_call 32; go_must (refine (both_no t1 s1 t2 s2 _ ((HT.out.alloc _).alloc _) HP.out).mono ?_); rintro e w1 ⟨rfl, b1⟩)
    go_ret2
    exact ⟨by rw [HV.out]; rfl, ((bl2 b1).alloc (by have := bl2_lt b1; omega) _).alloc (by have := bl2_lt b1; simp; omega) _⟩
end Go.Proofs.YtbmmmhjgidffpaaDoor
