/- The contracts of 'Add', 'Seconds', 'Energy'. -/
import Derived.Test.YtbmmmhjgidffpaaDoorD
namespace Go.Proofs.YtbmmmhjgidffpaaDoor
open Go.RowKit

theorem bV_bd (t : Int) (s : ByteArray) : -3600000000000 ≤ bV t s ∧ bV t s ≤ 3600000000000 := by
  unfold bV
  split
  · rename_i h
    unfold bE at h
    split at h
    · rename_i hu
      split at h
      · rename_i hi
        have hb : -1000000000 ≤ t ∧ t ≤ 1000000000 := by simpa [inB] using hi
        have hf := tF_pos _ hu
        exact mul_in t _ hb.1 hb.2 hf.1 hf.2
      · omega
    · omega
  · omega
/-- What 'Add' gives. -/
def dE (t1 : Int) (s1 : ByteArray) (t2 : Int) (s2 : ByteArray) : Int := if pE t1 s1 t2 s2 = 0 then nE (bD t1 s1) (bV t1 s1 + bV t2 s2) else pE t1 s1 t2 s2
def dT (t1 : Int) (s1 : ByteArray) (t2 : Int) (s2 : ByteArray) : Int := if pE t1 s1 t2 s2 = 0 then nT (bD t1 s1) (bV t1 s1 + bV t2 s2) else 0
def dS (t1 : Int) (s1 : ByteArray) (t2 : Int) (s2 : ByteArray) : ByteArray := if pE t1 s1 t2 s2 = 0 then nS (bD t1 s1) (bV t1 s1 + bV t2 s2) else ⟨#[]⟩
theorem bl3 {w w1 : World} {o1 o2 o3 : Obj} (hb : Below (((w.alloc o1).alloc o2).alloc o3).heap.size (((w.alloc o1).alloc o2).alloc o3) w1) : Below w.heap.size w w1 ∧ w.heap.size + 1 + 1 < w1.heap.size :=
  ⟨((((Below.refl _ _).alloc (Nat.le_refl _) _).alloc (by simp) _).alloc (by simp; omega) _).trans (hb.mono (by simp; omega)), Nat.lt_of_lt_of_le (by simp) hb.size⟩
theorem two_third {w w1 : World} {o1 o2 : Obj} {x y : Value} {t : TypeId} (hb : Below (((w.alloc o1).alloc o2).alloc (.cells #[x, y] t)).heap.size (((w.alloc o1).alloc o2).alloc (.cells #[x, y] t)) w1) :
    (w1.cell? ⟨w.heap.size + 1 + 1, 0, none⟩ = some x ∧ w1.frozen? ⟨w.heap.size + 1 + 1, 0, none⟩ = false) ∧ (w1.cell? ⟨w.heap.size + 1 + 1, 1, none⟩ = some y ∧ w1.frozen? ⟨w.heap.size + 1 + 1, 1, none⟩ = false) := by
  have := two_new hb
  simpa using this
theorem cell_two {w : World} {n j : Nat} {v : Value} (o1 o2 : Obj) (h : n < w.heap.size) (f : w.cell? ⟨n, j, none⟩ = some v) : ((w.alloc o1).alloc o2).cell? ⟨n, j, none⟩ = some v := by
  rw [World.cell?_alloc_past _ _ _ (by simp; omega), World.cell?_alloc_past _ _ _ h, f]
theorem frozen_two {w : World} {n j : Nat} (o1 o2 : Obj) (h : n < w.heap.size) (f : w.frozen? ⟨n, j, none⟩ = false) : ((w.alloc o1).alloc o2).frozen? ⟨n, j, none⟩ = false := by
  rw [frozen_past _ _ _ _ (by simp; omega), frozen_past _ _ _ _ h, f]
set_option maxRecDepth 100000 in
set_option maxHeartbeats 1000000 in
theorem add_no (t1 : Int) (s1 : ByteArray) (t2 : Int) (s2 : ByteArray) (w : World) (hT : Tab w) (h : pE t1 s1 t2 s2 ≠ 0) :
    Calls Tryd.prog 16 #[.agg #[.int .i64 t1, .string s1], .agg #[.int .i64 t2, .string s2]] w fun e w' => e = .returned (.tuple #[.agg #[.int .i64 0, .string ⟨#[]⟩], .int .i64 (pE t1 s1 t2 s2)]) ∧ Below w.heap.size w w' := by
  have HT := Lib.hid hT
  have h1 : (pE t1 s1 t2 s2 != 0) = true := by simpa using h
  have HP := Lib.hid h
  clear h hT
  go_enter Tryd.func16, Tryd.ntmps16
  go_wp2_with (go_at_call 32; go_must (refine (both_no t1 s1 t2 s2 _ (((HT.out.alloc _).alloc _).alloc _) HP.out).mono ?_); rintro e w1 ⟨rfl, b1⟩; have htw := two_third b1; obtain ⟨⟨c0, f0⟩, ⟨c1, f1⟩⟩ := htw; have hb := bl3 b1; obtain ⟨hb1, hz⟩ := hb; have HB := Lib.hid hb1; clear hb1 b1; have ff0 := fun o1 o2 => frozen_two (j := 0) o1 o2 hz f0; have ff1 := fun o1 o2 => frozen_two (j := 1) o1 o2 hz f1; have cc0 := fun o1 o2 => cell_two (j := 0) o1 o2 hz c0; have cc1 := fun o1 o2 => cell_two (j := 1) o1 o2 hz c1)
  exact bodyPost_ret (v := .tuple #[.agg #[.int .i64 0, .string ⟨#[]⟩], .int .i64 (pE t1 s1 t2 s2)]) (by simp [results, Tryd.results16, go_sem, cc0, cc1]) rfl ⟨rfl, ((((HB.out.alloc (by omega) _).alloc (by simp; omega) _).setCell (by simp; omega) _).setCell (by simp; omega) _)⟩
set_option maxRecDepth 100000 in
set_option maxHeartbeats 1000000 in
theorem add_yes (t1 : Int) (s1 : ByteArray) (t2 : Int) (s2 : ByteArray) (w : World) (hT : Tab w) (h : pE t1 s1 t2 s2 = 0) :
    Calls Tryd.prog 16 #[.agg #[.int .i64 t1, .string s1], .agg #[.int .i64 t2, .string s2]] w fun e w' => e = .returned (.tuple #[.agg #[.int .i64 (nT (bD t1 s1) (bV t1 s1 + bV t2 s2)), .string (nS (bD t1 s1) (bV t1 s1 + bV t2 s2))], .int .i64 (nE (bD t1 s1) (bV t1 s1 + bV t2 s2))]) ∧ Below w.heap.size w w' := by
  have HT := Lib.hid hT
  have hp := hT.pos
  have HP := Lib.hid h
  have hx := bV_bd t1 s1
  have hy := bV_bd t2 s2
  obtain ⟨hx1, hx2⟩ := hx
  obtain ⟨hy1, hy2⟩ := hy
  clear h
  go_enter Tryd.func16, Tryd.ntmps16
  go_wp2_with (first | (go_at_call 32; go_must (refine (both_yes t1 s1 t2 s2 _ (((HT.out.alloc _).alloc _).alloc _) HP.out).mono ?_); rintro e w1 ⟨rfl, b1⟩; have htw := two_third b1; obtain ⟨⟨c0, f0⟩, ⟨c1, f1⟩⟩ := htw; have hb := bl3 b1; obtain ⟨hb1, hz⟩ := hb; have HB := Lib.hid hb1; have HT1 := Lib.hid (HT.out.below hb1 hp); clear hb1 b1) | (go_at_call 18; go_must (refine (canon_any _ _ _ ((HT1.out.alloc _).alloc _) (by unfold I64; omega)).mono ?_); rintro e w2 ⟨rfl, b2⟩; have hold := two_old2 (bl2 b2) hz c0 c1 f0 f1; have hz2 := bl2_lt b2; obtain ⟨⟨c0', f0'⟩, ⟨c1', f1'⟩⟩ := hold; clear c0 c1 f0 f1))
  exact bodyPost_ret (v := .tuple #[.agg #[.int .i64 (nT (bD t1 s1) (bV t1 s1 + bV t2 s2)), .string (nS (bD t1 s1) (bV t1 s1 + bV t2 s2))], .int .i64 (nE (bD t1 s1) (bV t1 s1 + bV t2 s2))]) (by simp [results, Tryd.results16, go_sem, c0', c1']) rfl ⟨rfl, ((HB.out.trans ((bl2 b2).mono (by omega))).setCell (by simp; omega) _).setCell (by simp; omega) _⟩
theorem add_any (t1 : Int) (s1 : ByteArray) (t2 : Int) (s2 : ByteArray) (w : World) (hT : Tab w) :
    Calls Tryd.prog 16 #[.agg #[.int .i64 t1, .string s1], .agg #[.int .i64 t2, .string s2]] w fun e w' => e = .returned (.tuple #[.agg #[.int .i64 (dT t1 s1 t2 s2), .string (dS t1 s1 t2 s2)], .int .i64 (dE t1 s1 t2 s2)]) ∧ Below w.heap.size w w' := by
  by_cases h : pE t1 s1 t2 s2 = 0
  · have := add_yes t1 s1 t2 s2 w hT h
    simpa [dT, dS, dE, h] using this
  · have := add_no t1 s1 t2 s2 w hT h
    simpa [dT, dS, dE, h] using this

/-- What 'Seconds' gives. -/
def sE (t : Int) (s : ByteArray) : Int := if bE t s = 0 then (if bD t s = 3 then (if (bV t s).tmod 10 = 0 then 0 else 11) else 10) else bE t s
def sV (t : Int) (s : ByteArray) : Int := if sE t s = 0 then (bV t s).tdiv 10 else 0
theorem tdiv10 (v : Int) (h1 : -3600000000000 ≤ v) (h2 : v ≤ 3600000000000) : wrap64 (v.tdiv 10) = v.tdiv 10 := tdiv_wrap v 10 (by omega) (by omega) (by omega)
set_option maxRecDepth 100000 in
set_option maxHeartbeats 1000000 in
theorem seconds_any (t : Int) (s : ByteArray) (w : World) (hT : Tab w) :
    Calls Tryd.prog 20 #[.agg #[.int .i64 t, .string s]] w fun e w' => e = .returned (.tuple #[.int .i64 (sV t s), .int .i64 (sE t s)]) ∧ Below w.heap.size w w' := by
  have HT := Lib.hid hT
  have hb := bV_bd t s
  have hw := tdiv10 _ hb.1 hb.2
  clear hb
  by_cases h : bE t s = 0
  · have h0 : (bE t s != 0) = false := by simpa using h
    by_cases h3 : bD t s = 3
    · have h3' : (bD t s != 3) = false := by simpa using h3
      by_cases hm : (bV t s).tmod 10 = 0
      · have hm' : ((bV t s).tmod 10 != 0) = false := by simpa using hm
        have hE := Lib.hid (show sE t s = 0 by simp [sE, h, h3, hm])
        have hV := Lib.hid (show sV t s = (bV t s).tdiv 10 by simp [sV, hE.out])
        clear h h3 hm
        go_enter Tryd.func20, Tryd.ntmps20
        go_wp2_with (go_at_call 12; go_must (refine (base12_any t s _ (HT.out.alloc _)).mono ?_); rintro e w1 ⟨rfl, b1⟩)
        go_ret2
        exact ⟨by show Ending.returned (.tuple #[.int .i64 (wrap64 ((bV t s).tdiv 10)), .int .i64 0]) = _; rw [hw, hE.out, hV.out], bl1 b1⟩
      · have hm' : ((bV t s).tmod 10 != 0) = true := by simpa using hm
        have hE := Lib.hid (show sE t s = 11 by simp [sE, h, h3, hm])
        have hV := Lib.hid (show sV t s = 0 by simp [sV, hE.out])
        clear h h3 hm
        go_enter Tryd.func20, Tryd.ntmps20
        go_wp2_with (go_at_call 12; go_must (refine (base12_any t s _ (HT.out.alloc _)).mono ?_); rintro e w1 ⟨rfl, b1⟩)
        go_ret2
        exact ⟨by rw [hE.out, hV.out]; rfl, bl1 b1⟩
    · have h3' : (bD t s != 3) = true := by simpa using h3
      have hE := Lib.hid (show sE t s = 10 by simp [sE, h, h3])
      have hV := Lib.hid (show sV t s = 0 by simp [sV, hE.out])
      clear h h3
      go_enter Tryd.func20, Tryd.ntmps20
      go_wp2_with (go_at_call 12; go_must (refine (base12_any t s _ (HT.out.alloc _)).mono ?_); rintro e w1 ⟨rfl, b1⟩)
      go_ret2
      exact ⟨by rw [hE.out, hV.out]; rfl, bl1 b1⟩
  · have h0 : (bE t s != 0) = true := by simpa using h
    have hE := Lib.hid (show sE t s = bE t s by simp [sE, h])
    have hV := Lib.hid (show sV t s = 0 by simp [sV, hE.out, h])
    clear h
    go_enter Tryd.func20, Tryd.ntmps20
    go_wp2_with (go_at_call 12; go_must (refine (base12_any t s _ (HT.out.alloc _)).mono ?_); rintro e w1 ⟨rfl, b1⟩)
    go_ret2
    exact ⟨by rw [hE.out, hV.out]; rfl, bl1 b1⟩
end Go.Proofs.YtbmmmhjgidffpaaDoor
