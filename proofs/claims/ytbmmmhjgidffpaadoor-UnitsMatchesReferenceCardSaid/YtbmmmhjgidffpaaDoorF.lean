/- The contract of 'Energy'. -/
import Derived.Test.YtbmmmhjgidffpaaDoorE
namespace Go.Proofs.YtbmmmhjgidffpaaDoor
open Go.RowKit

theorem bl4' {w w1 : World} {o1 o2 o3 o4 : Obj} (hb : Below ((((w.alloc o1).alloc o2).alloc o3).alloc o4).heap.size ((((w.alloc o1).alloc o2).alloc o3).alloc o4) w1) : Below (w.heap.size + 3) (((w.alloc o1).alloc o2).alloc o3) w1 ∧ Below w.heap.size w w1 ∧ w.heap.size + 1 + 1 + 1 < w1.heap.size := by
  have h := bl1 hb
  refine ⟨by simpa [Nat.add_assoc] using h, ?_, Nat.lt_of_lt_of_le (by simp) hb.size⟩
  exact ((((Below.refl _ _).alloc (Nat.le_refl _) _).alloc (by simp) _).alloc (by simp; omega) _).trans (h.mono (by simp; omega))
theorem two_third' {w w1 : World} {o1 o2 : Obj} {x y : Value} {t : TypeId} (hb : Below (w.heap.size + 3) (((w.alloc o1).alloc o2).alloc (.cells #[x, y] t)) w1) :
    (w1.cell? ⟨w.heap.size + 1 + 1, 0, none⟩ = some x ∧ w1.frozen? ⟨w.heap.size + 1 + 1, 0, none⟩ = false) ∧ (w1.cell? ⟨w.heap.size + 1 + 1, 1, none⟩ = some y ∧ w1.frozen? ⟨w.heap.size + 1 + 1, 1, none⟩ = false) := by
  have := two_new (w := (w.alloc o1).alloc o2) (w1 := w1) (x := x) (y := y) (t := t) (by simpa [Nat.add_assoc] using hb)
  simpa using this
/-- What 'Energy' gives. -/
theorem Tab.drew {w : World} (h : Tab w) : Tab w.drew := h
theorem dr_old {w1 w2 : World} {o1 o2 : Obj} {n : Nat} {x y : Value} (hb : Below ((w1.alloc o1).alloc o2).drew.heap.size ((w1.alloc o1).alloc o2).drew w2) (hn : n < w1.heap.size) (h0 : w1.cell? ⟨n, 0, none⟩ = some x) (h1 : w1.cell? ⟨n, 1, none⟩ = some y) (f0 : w1.frozen? ⟨n, 0, none⟩ = false) (f1 : w1.frozen? ⟨n, 1, none⟩ = false) :
    (w2.cell? ⟨n, 0, none⟩ = some x ∧ w2.frozen? ⟨n, 0, none⟩ = false) ∧ (w2.cell? ⟨n, 1, none⟩ = some y ∧ w2.frozen? ⟨n, 1, none⟩ = false) :=
  two_old2 hb (by show n < ((w1.alloc o1).alloc o2).heap.size; simp; omega) (cell_two o1 o2 hn h0) (cell_two o1 o2 hn h1) (frozen_two o1 o2 hn f0) (frozen_two o1 o2 hn f1)
theorem below_drew (B : Nat) (W : World) : Below B W W.drew := ⟨rfl, rfl, rfl, Nat.le_refl _, fun _ _ => rfl⟩
theorem dr_below {w w1 w2 : World} {o1 o2 : Obj} (h : Below w.heap.size w w1) (hb : Below ((w1.alloc o1).alloc o2).drew.heap.size ((w1.alloc o1).alloc o2).drew w2) : Below w.heap.size w w2 := by
  have h1 := h.size
  exact (((h.alloc h1 _).alloc (by simp; omega) _).trans (below_drew _ _)).trans (hb.mono (by show w.heap.size ≤ ((w1.alloc o1).alloc o2).heap.size; simp; omega))
theorem dr_size {w1 w2 : World} {o1 o2 : Obj} (hb : Below ((w1.alloc o1).alloc o2).drew.heap.size ((w1.alloc o1).alloc o2).drew w2) : w1.heap.size + 1 < w2.heap.size := Nat.lt_of_lt_of_le (by show _ < ((w1.alloc o1).alloc o2).heap.size; simp) hb.size
theorem mul_bd (x y : Int) (h1 : inB x (-1000000000) 1000000000 = true) (h2 : inB y 0 1000000000 = true) : -1000000000000000000 ≤ x * y ∧ x * y ≤ 1000000000000000000 := by
  have a : -1000000000 ≤ x ∧ x ≤ 1000000000 := by simpa [inB] using h1
  have b : 0 ≤ y ∧ y ≤ 1000000000 := by simpa [inB] using h2
  constructor
  · have h5 : -1000000000 * y ≤ x * y := Int.mul_le_mul_of_nonneg_right a.1 b.1
    omega
  · have h5 : x * y ≤ 1000000000 * y := Int.mul_le_mul_of_nonneg_right a.2 b.1
    omega
def gOk (t1 : Int) (s1 : ByteArray) (t2 : Int) (s2 : ByteArray) : Bool := bD t1 s1 == 4 && bD t2 s2 == 3
def gIn (t1 : Int) (s1 : ByteArray) (t2 : Int) (s2 : ByteArray) : Bool := inB (bV t1 s1) (-1000000000) 1000000000 && inB (bV t2 s2) 0 1000000000
def gF (t1 : Int) (s1 : ByteArray) (t2 : Int) (s2 : ByteArray) : Int := if aE t1 s1 t2 s2 = 0 then (if gOk t1 s1 t2 s2 then (if gIn t1 s1 t2 s2 then 0 else 11) else 10) else aE t1 s1 t2 s2
def gV (t1 : Int) (s1 : ByteArray) (t2 : Int) (s2 : ByteArray) : Int := bV t1 s1 * bV t2 s2 / 36000
def gE (t1 : Int) (s1 : ByteArray) (t2 : Int) (s2 : ByteArray) : Int := if gF t1 s1 t2 s2 = 0 then nE 5 (gV t1 s1 t2 s2) else gF t1 s1 t2 s2
def gT (t1 : Int) (s1 : ByteArray) (t2 : Int) (s2 : ByteArray) : Int := if gF t1 s1 t2 s2 = 0 then nT 5 (gV t1 s1 t2 s2) else 0
def gS (t1 : Int) (s1 : ByteArray) (t2 : Int) (s2 : ByteArray) : ByteArray := if gF t1 s1 t2 s2 = 0 then nS 5 (gV t1 s1 t2 s2) else ⟨#[]⟩
set_option maxRecDepth 100000 in
set_option maxHeartbeats 1000000 in
theorem energy_err (t1 : Int) (s1 : ByteArray) (t2 : Int) (s2 : ByteArray) (w : World) (hT : Tab w) (h : aE t1 s1 t2 s2 ≠ 0) :
    Calls Tryd.prog 22 #[.agg #[.int .i64 t1, .string s1], .agg #[.int .i64 t2, .string s2]] w fun e w' => e = .returned (.tuple #[.agg #[.int .i64 0, .string ⟨#[]⟩], .int .i64 (aE t1 s1 t2 s2)]) ∧ Below w.heap.size w w' := by
  have HT := Lib.hid hT
  have hp := hT.pos
  have he1 : (aE t1 s1 t2 s2 != 0) = true := by simpa using h
  go_enter Tryd.func22, Tryd.ntmps22
  go_wp2_with fail
  refine (amounts_new t1 s1 t2 s2 _ _ (((HT.out.alloc _).alloc _).alloc _) (by simp)).mono ?_
  rintro e w1 ⟨⟨h1, rfl⟩ | ⟨h1, _⟩, hb⟩
  · have hb4 := bl4' hb
    obtain ⟨hb5, hb6, hz⟩ := hb4
    have HB := Lib.hid hb6
    have htw := two_third' hb5
    obtain ⟨⟨c0, f0⟩, ⟨c1, f1⟩⟩ := htw
    clear hb hb5 hb6 h1 h hT
    go_wp2
    exact bodyPost_ret (v := .tuple #[.agg #[.int .i64 0, .string ⟨#[]⟩], .int .i64 (aE t1 s1 t2 s2)]) (by simp [results, Tryd.results22, go_sem, c0, c1]) rfl ⟨rfl, (HB.out.setCell (by simp; omega) _).setCell (by simp; omega) _⟩
  · exact absurd h1 h
set_option maxRecDepth 100000 in
set_option maxHeartbeats 2000000 in
theorem energy_dim1 (t1 : Int) (s1 : ByteArray) (t2 : Int) (s2 : ByteArray) (w : World) (hT : Tab w) (h : aE t1 s1 t2 s2 = 0) (hd : bD t1 s1 ≠ 4) :
    Calls Tryd.prog 22 #[.agg #[.int .i64 t1, .string s1], .agg #[.int .i64 t2, .string s2]] w fun e w' => e = .returned (.tuple #[.agg #[.int .i64 0, .string ⟨#[]⟩], .int .i64 10]) ∧ Below w.heap.size w w' := by
  have HT := Lib.hid hT
  have hp := hT.pos
  have HA := Lib.hid h
  clear h hT
  have hd1 : (bD t1 s1 != 4) = true := by simpa using hd
  go_enter Tryd.func22, Tryd.ntmps22
  go_wp2_with fail
  refine (amounts_new t1 s1 t2 s2 _ _ (((HT.out.alloc _).alloc _).alloc _) (by simp)).mono ?_
  rintro e w1 ⟨⟨h1, _⟩ | ⟨_, g, cap, rfl, hg0, hg1, k0, k1, k2, k3⟩, hb⟩
  · exact absurd HA.out h1
  · have hb4 := bl4' hb
    obtain ⟨hb5, hb6, hz⟩ := hb4
    have HB := Lib.hid hb6
    have htw := two_third' hb5
    have hgn : w.heap.size + 3 < g := by have := hg0; simp at this; omega
    obtain ⟨⟨c0, f0⟩, ⟨c1, f1⟩⟩ := htw
    have HTr := Lib.hid (HT.out.below hb6 hp)
    have hz2 : w.heap.size + 1 + 1 < w1.heap.size := by omega
    clear hb hb5 hb6 hg0
    go_wp2
    go_region
    all_goals
     have ff0 := fun o1 o2 => frozen_two (j := 0) o1 o2 hz2 f0
     have ff1 := fun o1 o2 => frozen_two (j := 1) o1 o2 hz2 f1
     have cc0 := fun o1 o2 => cell_two (j := 0) o1 o2 hz2 c0
     have cc1 := fun o1 o2 => cell_two (j := 1) o1 o2 hz2 c1
     go_wp2
     exact bodyPost_ret (v := .tuple #[.agg #[.int .i64 0, .string ⟨#[]⟩], .int .i64 10]) (by simp [results, Tryd.results22, go_sem, cc0, cc1]) rfl ⟨rfl, (((((HB.out.alloc (by omega) _).alloc (by simp; omega) _).trans (below_drew _ _)).setCell (by simp; omega) _).setCell (by simp; omega) _)⟩
set_option maxRecDepth 100000 in
set_option maxHeartbeats 2000000 in
theorem energy_dim2 (t1 : Int) (s1 : ByteArray) (t2 : Int) (s2 : ByteArray) (w : World) (hT : Tab w) (h : aE t1 s1 t2 s2 = 0) (hd : bD t1 s1 = 4) (he : bD t2 s2 ≠ 3) :
    Calls Tryd.prog 22 #[.agg #[.int .i64 t1, .string s1], .agg #[.int .i64 t2, .string s2]] w fun e w' => e = .returned (.tuple #[.agg #[.int .i64 0, .string ⟨#[]⟩], .int .i64 10]) ∧ Below w.heap.size w w' := by
  have HT := Lib.hid hT
  have hp := hT.pos
  have HA := Lib.hid h
  clear h hT
  have hd1 : (bD t1 s1 != 4) = false := by simpa using hd
  have hd3 : (bD t2 s2 != 3) = true := by simpa using he
  clear hd
  go_enter Tryd.func22, Tryd.ntmps22
  go_wp2_with fail
  refine (amounts_new t1 s1 t2 s2 _ _ (((HT.out.alloc _).alloc _).alloc _) (by simp)).mono ?_
  rintro e w1 ⟨⟨h1, _⟩ | ⟨_, g, cap, rfl, hg0, hg1, k0, k1, k2, k3⟩, hb⟩
  · exact absurd HA.out h1
  · have hb4 := bl4' hb
    obtain ⟨hb5, hb6, hz⟩ := hb4
    have HB := Lib.hid hb6
    have htw := two_third' hb5
    have hgn : w.heap.size + 3 < g := by have := hg0; simp at this; omega
    obtain ⟨⟨c0, f0⟩, ⟨c1, f1⟩⟩ := htw
    have HTr := Lib.hid (HT.out.below hb6 hp)
    have hz2 : w.heap.size + 1 + 1 < w1.heap.size := by omega
    clear hb hb5 hb6 hg0
    go_wp2
    go_region
    all_goals
     have ff0 := fun o1 o2 => frozen_two (j := 0) o1 o2 hz2 f0
     have ff1 := fun o1 o2 => frozen_two (j := 1) o1 o2 hz2 f1
     have cc0 := fun o1 o2 => cell_two (j := 0) o1 o2 hz2 c0
     have cc1 := fun o1 o2 => cell_two (j := 1) o1 o2 hz2 c1
     go_wp2
     exact bodyPost_ret (v := .tuple #[.agg #[.int .i64 0, .string ⟨#[]⟩], .int .i64 10]) (by simp [results, Tryd.results22, go_sem, cc0, cc1]) rfl ⟨rfl, (((((HB.out.alloc (by omega) _).alloc (by simp; omega) _).trans (below_drew _ _)).setCell (by simp; omega) _).setCell (by simp; omega) _)⟩
set_option maxRecDepth 100000 in
set_option maxHeartbeats 2000000 in
theorem energy_far1 (t1 : Int) (s1 : ByteArray) (t2 : Int) (s2 : ByteArray) (w : World) (hT : Tab w) (h : aE t1 s1 t2 s2 = 0) (hd : bD t1 s1 = 4) (he : bD t2 s2 = 3) (HX : Hid (inB (bV t1 s1) (-1000000000) 1000000000 = false)) :
    Calls Tryd.prog 22 #[.agg #[.int .i64 t1, .string s1], .agg #[.int .i64 t2, .string s2]] w fun e w' => e = .returned (.tuple #[.agg #[.int .i64 0, .string ⟨#[]⟩], .int .i64 11]) ∧ Below w.heap.size w w' := by
  have HT := Lib.hid hT
  have hp := hT.pos
  have HA := Lib.hid h
  clear h hT
  have hd1 : (bD t1 s1 != 4) = false := by simpa using hd
  have hd3 : (bD t2 s2 != 3) = false := by simpa using he
  clear hd he
  go_enter Tryd.func22, Tryd.ntmps22
  go_wp2_with fail
  refine (amounts_new t1 s1 t2 s2 _ _ (((HT.out.alloc _).alloc _).alloc _) (by simp)).mono ?_
  rintro e w1 ⟨⟨h1, _⟩ | ⟨_, g, cap, rfl, hg0, hg1, k0, k1, k2, k3⟩, hb⟩
  · exact absurd HA.out h1
  · have hb4 := bl4' hb
    obtain ⟨hb5, hb6, hz⟩ := hb4
    have HB := Lib.hid hb6
    have htw := two_third' hb5
    have hgn : w.heap.size + 3 < g := by have := hg0; simp at this; omega
    obtain ⟨⟨c0, f0⟩, ⟨c1, f1⟩⟩ := htw
    have HTr := Lib.hid (HT.out.below hb6 hp)
    have hz2 : w.heap.size + 1 + 1 < w1.heap.size := by omega
    clear hb hb5 hb6 hg0
    go_wp2
    go_region
    all_goals
     have ff0 := fun o1 o2 => frozen_two (j := 0) o1 o2 hz2 f0
     have ff1 := fun o1 o2 => frozen_two (j := 1) o1 o2 hz2 f1
     have cc0 := fun o1 o2 => cell_two (j := 0) o1 o2 hz2 c0
     have cc1 := fun o1 o2 => cell_two (j := 1) o1 o2 hz2 c1
     go_wp2_with ((go_at_call 30; go_must (refine (within_any _ _ _ _).mono ?_); rintro e w2 ⟨rfl, rfl⟩; rw [HX.out]))
     exact bodyPost_ret (v := .tuple #[.agg #[.int .i64 0, .string ⟨#[]⟩], .int .i64 11]) (by simp [results, Tryd.results22, go_sem, cc0, cc1]) rfl ⟨rfl, (((((HB.out.alloc (by omega) _).alloc (by simp; omega) _).trans (below_drew _ _)).setCell (by simp; omega) _).setCell (by simp; omega) _)⟩
set_option maxRecDepth 100000 in
set_option maxHeartbeats 2000000 in
theorem energy_far2 (t1 : Int) (s1 : ByteArray) (t2 : Int) (s2 : ByteArray) (w : World) (hT : Tab w) (h : aE t1 s1 t2 s2 = 0) (hd : bD t1 s1 = 4) (he : bD t2 s2 = 3) (HX : Hid (inB (bV t1 s1) (-1000000000) 1000000000 = true)) (HY : Hid (inB (bV t2 s2) 0 1000000000 = false)) :
    Calls Tryd.prog 22 #[.agg #[.int .i64 t1, .string s1], .agg #[.int .i64 t2, .string s2]] w fun e w' => e = .returned (.tuple #[.agg #[.int .i64 0, .string ⟨#[]⟩], .int .i64 11]) ∧ Below w.heap.size w w' := by
  have HT := Lib.hid hT
  have hp := hT.pos
  have HA := Lib.hid h
  clear h hT
  have hd1 : (bD t1 s1 != 4) = false := by simpa using hd
  have hd3 : (bD t2 s2 != 3) = false := by simpa using he
  clear hd he
  go_enter Tryd.func22, Tryd.ntmps22
  go_wp2_with fail
  refine (amounts_new t1 s1 t2 s2 _ _ (((HT.out.alloc _).alloc _).alloc _) (by simp)).mono ?_
  rintro e w1 ⟨⟨h1, _⟩ | ⟨_, g, cap, rfl, hg0, hg1, k0, k1, k2, k3⟩, hb⟩
  · exact absurd HA.out h1
  · have hb4 := bl4' hb
    obtain ⟨hb5, hb6, hz⟩ := hb4
    have HB := Lib.hid hb6
    have htw := two_third' hb5
    have hgn : w.heap.size + 3 < g := by have := hg0; simp at this; omega
    obtain ⟨⟨c0, f0⟩, ⟨c1, f1⟩⟩ := htw
    have HTr := Lib.hid (HT.out.below hb6 hp)
    have hz2 : w.heap.size + 1 + 1 < w1.heap.size := by omega
    clear hb hb5 hb6 hg0
    go_wp2
    go_region
    all_goals
     have ff0 := fun o1 o2 => frozen_two (j := 0) o1 o2 hz2 f0
     have ff1 := fun o1 o2 => frozen_two (j := 1) o1 o2 hz2 f1
     have cc0 := fun o1 o2 => cell_two (j := 0) o1 o2 hz2 c0
     have cc1 := fun o1 o2 => cell_two (j := 1) o1 o2 hz2 c1
     go_wp2_with ((go_at_call 30; go_must (refine (within_any _ _ _ _).mono ?_); rintro e w2 ⟨rfl, rfl⟩; first | rw [HX.out] | rw [HY.out]))
     exact bodyPost_ret (v := .tuple #[.agg #[.int .i64 0, .string ⟨#[]⟩], .int .i64 11]) (by simp [results, Tryd.results22, go_sem, cc0, cc1]) rfl ⟨rfl, (((((HB.out.alloc (by omega) _).alloc (by simp; omega) _).trans (below_drew _ _)).setCell (by simp; omega) _).setCell (by simp; omega) _)⟩
set_option maxRecDepth 100000 in
set_option maxHeartbeats 2000000 in
theorem energy_ok (t1 : Int) (s1 : ByteArray) (t2 : Int) (s2 : ByteArray) (w : World) (hT : Tab w) (h : aE t1 s1 t2 s2 = 0) (hd : bD t1 s1 = 4) (he : bD t2 s2 = 3) (HX : Hid (inB (bV t1 s1) (-1000000000) 1000000000 = true)) (HY : Hid (inB (bV t2 s2) 0 1000000000 = true)) :
    Calls Tryd.prog 22 #[.agg #[.int .i64 t1, .string s1], .agg #[.int .i64 t2, .string s2]] w fun e w' => e = .returned (.tuple #[.agg #[.int .i64 (nT 5 (gV t1 s1 t2 s2)), .string (nS 5 (gV t1 s1 t2 s2))], .int .i64 (nE 5 (gV t1 s1 t2 s2))]) ∧ Below w.heap.size w w' := by
  have HT := Lib.hid hT
  have hp := hT.pos
  have HA := Lib.hid h
  clear h hT
  have hd1 : (bD t1 s1 != 4) = false := by simpa using hd
  have hd3 : (bD t2 s2 != 3) = false := by simpa using he
  clear hd he
  have hx := bV_bd t1 s1
  have hm := mul_bd _ _ HX.out HY.out
  obtain ⟨hm1, hm2⟩ := hm
  have HI := Lib.hid (show I64 (bV t1 s1 * bV t2 s2 / 36000) by unfold I64; omega)
  go_enter Tryd.func22, Tryd.ntmps22
  go_wp2_with fail
  refine (amounts_new t1 s1 t2 s2 _ _ (((HT.out.alloc _).alloc _).alloc _) (by simp)).mono ?_
  rintro e w1 ⟨⟨h1, _⟩ | ⟨_, g, cap, rfl, hg0, hg1, k0, k1, k2, k3⟩, hb⟩
  · exact absurd HA.out h1
  · have hb4 := bl4' hb
    obtain ⟨hb5, hb6, hz⟩ := hb4
    have HB := Lib.hid hb6
    have htw := two_third' hb5
    have hgn : w.heap.size + 3 < g := by have := hg0; simp at this; omega
    obtain ⟨⟨c0, f0⟩, ⟨c1, f1⟩⟩ := htw
    have HTr := Lib.hid (HT.out.below hb6 hp)
    have hz2 : w.heap.size + 1 + 1 < w1.heap.size := by omega
    clear hb hb5 hb6 hg0
    go_wp2
    go_region
    all_goals
     have ff0 := fun o1 o2 => frozen_two (j := 0) o1 o2 hz2 f0
     have ff1 := fun o1 o2 => frozen_two (j := 1) o1 o2 hz2 f1
     have cc0 := fun o1 o2 => cell_two (j := 0) o1 o2 hz2 c0
     have cc1 := fun o1 o2 => cell_two (j := 1) o1 o2 hz2 c1
     go_wp2_with (first | (go_at_call 30; go_must (refine (within_any _ _ _ _).mono ?_); rintro e w2 ⟨rfl, rfl⟩; first | rw [HX.out] | rw [HY.out]) | (go_at_call 37; go_must (refine (divideDown_any _ _ (by omega) (by omega)).mono ?_); rintro e w2 ⟨rfl, rfl⟩) | (go_at_call 18; go_must (refine (canon_any 5 (bV t1 s1 * bV t2 s2 / 36000) _ (Tab.drew ((HTr.out.alloc _).alloc _)) HI.out).mono ?_); rintro e w2 ⟨rfl, b2⟩; have hold := dr_old b2 hz2 c0 c1 f0 f1; obtain ⟨⟨c0', f0'⟩, ⟨c1', f1'⟩⟩ := hold; have HB2 := Lib.hid (dr_below HB.out b2); have hz4 := dr_size b2; clear ff0 ff1 cc0 cc1 c0 c1 f0 f1))
     exact bodyPost_ret (v := .tuple #[.agg #[.int .i64 (nT 5 (gV t1 s1 t2 s2)), .string (nS 5 (gV t1 s1 t2 s2))], .int .i64 (nE 5 (gV t1 s1 t2 s2))]) (by simp [results, Tryd.results22, go_sem, c0', c1', gV]) rfl ⟨rfl, (HB2.out.setCell (by simp; omega) _).setCell (by simp; omega) _⟩
end Go.Proofs.YtbmmmhjgidffpaaDoor
