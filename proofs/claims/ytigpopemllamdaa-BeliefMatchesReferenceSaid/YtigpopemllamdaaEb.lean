/- Beliefs, the reference: 'Same'. -/
import Derived.Test.YtigpopemllamdaaEa
import Derived.Deep.CutRange
import Derived.BigQuiet
namespace Go.Proofs.Ytigpopemllamdaa
open Go.RowKit

set_option maxRecDepth 100000 in
set_option maxHeartbeats 8000000 in
theorem same_any (V : List Int) (M : List Od) (va : Option Addr) (vc : Nat) (sa : Option Addr) (sc : Nat) (ub : Option Addr) (uc : Nat) (sb : Option Addr) (sd : Nat) (w : World) (h : Rb V M va vc sa sc w) (h' : Rb V M ub uc sb sd w) (h9 : M.length ≤ 1000) :
    Calls Try.prog 19 #[.agg #[.slice va V.length vc, .slice sa M.length sc], .agg #[.slice ub V.length uc, .slice sb M.length sd]] w fun e w' => e = .returned (.bool true) ∧ Below w.heap.size w w' := by
  have HA := Lib.hid ((Cs.new w w.heap.size #[.slice va V.length vc, .slice sa M.length sc] 25 rfl).alloc (.cells #[.slice ub V.length uc, .slice sb M.length sd] 25))
  have HBb := Lib.hid (Cs.new (w.alloc (.cells #[.slice va V.length vc, .slice sa M.length sc] 25)) (w.heap.size + 1) #[.slice ub V.length uc, .slice sb M.length sd] 25 (by simp))
  have HW := Lib.hid (al2 (w := w) (o1 := .cells #[.slice va V.length vc, .slice sa M.length sc] 25) (o2 := .cells #[.slice ub V.length uc, .slice sb M.length sd] 25))
  have HR := Lib.hid (h.step HW.out)
  have HR' := Lib.hid (h'.step HW.out)
  clear h h'
  go_enter Try.func19, Try.ntmps19
  have a0 := HA.out.c 0 rfl
  have a1 := HA.out.c 1 rfl
  have az := HA.out.2.2
  have b0 := HBb.out.c 0 rfl
  have b1 := HBb.out.c 1 rfl
  have bz := HBb.out.2.2
  go_wp2_with fail
  refine (ints_b _ _ V V _ HR.out.1 HR'.out.1).mono ?_
  rintro e y ⟨rfl, b⟩
  rw [decide_eq_true (rfl : V = V)]
  have HA1 := Lib.hid (HA.out.step b)
  have HB1 := Lib.hid (HBb.out.step b)
  have HR1 := Lib.hid (HR.out.step b)
  have HR2 := Lib.hid (HR'.out.step b)
  have HW1 := Lib.hid (keep2 b HW.out)
  clear b a0 a1 az b0 b1 bz HA HBb HR HR' HW
  have a0 := HA1.out.c 0 rfl
  have a1 := HA1.out.c 1 rfl
  have az := HA1.out.2.2
  have b0 := HB1.out.c 0 rfl
  have b1 := HB1.out.c 1 rfl
  have bz := HB1.out.2.2
  go_wp2_with fail
  go_loopw [5] (fun iv wr => ∃ k : Nat, k ≤ M.length ∧ iv = .int .i64 k ∧ Hid (Below y.heap.size y wr)) (fun iv _ => M.length - (intOf iv).toNat)
  case atStart => exact ⟨0, by omega, rfl, Lib.hid (Below.refl _ _)⟩
  case round =>
    obtain ⟨k, hk, rfl, HW⟩ := hrel
    clear a0 a1 az b0 b1 bz
    have HA2 := Lib.hid (HA1.out.step HW.out)
    have HB2 := Lib.hid (HB1.out.step HW.out)
    by_cases hlt : k < M.length
    · obtain ⟨p1, q1, e1, -, -, hc1⟩ := (HR1.out.step HW.out).2
      obtain ⟨rfl, rfl⟩ : sa = p1 ∧ sc = q1 := by simpa using e1
      obtain ⟨p2, q2, e2, -, -, hc2⟩ := (HR2.out.step HW.out).2
      obtain ⟨rfl, rfl⟩ : sb = p2 ∧ sd = q2 := by simpa using e2
      obtain ⟨d1, o1, rfl, hx1⟩ := hc1 (by intro e; rw [e] at hlt; simp at hlt)
      obtain ⟨d2, o2, rfl, hx2⟩ := hc2 (by intro e; rw [e] at hlt; simp at hlt)
      obtain ⟨y0, y1, y2, y3⟩ := hx1 k _ (od_get hlt)
      obtain ⟨z0, z1, z2, z3⟩ := hx2 k _ (od_get hlt)
      have a1 := HA2.out.c 1 rfl
      have az := HA2.out.2.2
      have b1 := HB2.out.c 1 rfl
      have bz := HB2.out.2.2
      have yz := World.block_lt_of_cell? _ _ y0
      have zz := World.block_lt_of_cell? _ _ z0
      have t1 : (k : Int) < (M.length : Int) := by omega
      clear hc1 hc2 hx1 hx2 e1 e2
      generalize M.getD k zO = x at *
      obtain ⟨xa, hxa⟩ : ∃ z, x.a = z := ⟨_, rfl⟩
      obtain ⟨xb, hxb⟩ : ∃ z, x.b = z := ⟨_, rfl⟩
      obtain ⟨xc, hxc⟩ : ∃ z, x.c = z := ⟨_, rfl⟩
      obtain ⟨xd, hxd⟩ : ∃ z, x.d = z := ⟨_, rfl⟩
      rw [hxa] at y0 z0
      rw [hxb] at y1 z1
      rw [hxc] at y2 z2
      rw [hxd] at y3 z3
      clear hxa hxb hxc hxd
      go_upto_region 6 with fail
      go_quiet (fail)
      obtain ⟨W8, hW8⟩ : ∃ z, wr.drewN nq = z := ⟨_, rfl⟩
      have b8 : Below wr.heap.size wr W8 := by rw [← hW8]; exact below_drewN' _ _ _
      rw [hW8]
      have HW8 := Lib.hid (keep2 b8 HW.out)
      clear hW8 b8 y0 y1 y2 y3 z0 z1 z2 z3 yz zz a1 az b1 bz
      go_wp2
      go_roundw
      case rel => exact ⟨k + 1, hlt, by go_num, HW8⟩
      case measure => simp [intOf]; omega
    · have a1 := HA2.out.c 1 rfl
      have az := HA2.out.2.2
      go_wp2
      go_ret
      exact ⟨rfl, keep2 HW.out HW1.out⟩
end Go.Proofs.Ytigpopemllamdaa
