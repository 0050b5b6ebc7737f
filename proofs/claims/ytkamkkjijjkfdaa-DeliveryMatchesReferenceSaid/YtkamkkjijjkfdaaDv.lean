/- Delivery, the reference: 'Known'. -/
import Derived.Test.YtkamkkjijjkfdaaDm
namespace Go.Proofs.Ytkamkkjijjkfdaa
open Go.RowKit

set_option maxRecDepth 100000 in
set_option maxHeartbeats 8000000 in
theorem rknown_over (t f dn a b c d : Int) (sa va : Option Addr) (sc vc : Nat) (L : List Bool) (l : List Int) (w : World) (hs : BosAt w (.slice sa L.length sc) L) (h : t < a) :
    Calls Try.prog 34 #[.agg #[.int .i64 t, .slice sa L.length sc, .int .i64 f, .slice va l.length vc, .int .i64 dn], .agg #[.int .i64 a, .int .i64 b, .int .i64 c, .int .i64 d]] w fun e w' => e = .returned (.bool false) ∧ Below w.heap.size w w' := by
  have HR0 := Lib.hid ((Cs.new w w.heap.size #[.int .i64 t, .slice sa L.length sc, .int .i64 f, .slice va l.length vc, .int .i64 dn] 30 rfl).alloc (.cells #[.int .i64 a, .int .i64 b, .int .i64 c, .int .i64 d] 32))
  have HO0 := Lib.hid (Cs.new (w.alloc (.cells #[.int .i64 t, .slice sa L.length sc, .int .i64 f, .slice va l.length vc, .int .i64 dn] 30)) (w.heap.size + 1) #[.int .i64 a, .int .i64 b, .int .i64 c, .int .i64 d] 32 (by simp))
  have HB0 := Lib.hid (al2 (w := w) (o1 := .cells #[.int .i64 t, .slice sa L.length sc, .int .i64 f, .slice va l.length vc, .int .i64 dn] 30) (o2 := .cells #[.int .i64 a, .int .i64 b, .int .i64 c, .int .i64 d] 32))
  have HS0 := Lib.hid (hs.step HB0.out)
  clear hs
  have r0 := HR0.out.c 0 rfl
  have r1 := HR0.out.c 1 rfl
  have rz := HR0.out.2.2
  have o0 := HO0.out.c 0 rfl
  have oz := HO0.out.2.2
  have g1 : decide (a ≤ t) = false := by simp; omega
  clear h
  go_enter Try.func34, Try.ntmps34
  go_wp2
  go_ret
  exact ⟨rfl, HB0.out⟩
set_option maxRecDepth 100000 in
set_option maxHeartbeats 8000000 in
theorem rknown_in (t f dn a b c d : Int) (sa va : Option Addr) (sc vc : Nat) (L : List Bool) (l : List Int) (w : World) (hs : BosAt w (.slice sa L.length sc) L) (h : a ≤ t) (h6 : t - a < 16) (ht : -1 ≤ t ∧ t ≤ 1000000) (_ : 0 ≤ a) (hl : L.length = 16) (x : Bool) (hx : L.getD (t - a).toNat false = x) :
    Calls Try.prog 34 #[.agg #[.int .i64 t, .slice sa L.length sc, .int .i64 f, .slice va l.length vc, .int .i64 dn], .agg #[.int .i64 a, .int .i64 b, .int .i64 c, .int .i64 d]] w fun e w' => e = .returned (.bool x) ∧ Below w.heap.size w w' := by
  have HR0 := Lib.hid ((Cs.new w w.heap.size #[.int .i64 t, .slice sa L.length sc, .int .i64 f, .slice va l.length vc, .int .i64 dn] 30 rfl).alloc (.cells #[.int .i64 a, .int .i64 b, .int .i64 c, .int .i64 d] 32))
  have HO0 := Lib.hid (Cs.new (w.alloc (.cells #[.int .i64 t, .slice sa L.length sc, .int .i64 f, .slice va l.length vc, .int .i64 dn] 30)) (w.heap.size + 1) #[.int .i64 a, .int .i64 b, .int .i64 c, .int .i64 d] 32 (by simp))
  have HB0 := Lib.hid (al2 (w := w) (o1 := .cells #[.int .i64 t, .slice sa L.length sc, .int .i64 f, .slice va l.length vc, .int .i64 dn] 30) (o2 := .cells #[.int .i64 a, .int .i64 b, .int .i64 c, .int .i64 d] 32))
  have HS0 := Lib.hid (hs.step HB0.out)
  clear hs
  have r0 := HR0.out.c 0 rfl
  have r1 := HR0.out.c 1 rfl
  have rz := HR0.out.2.2
  have o0 := HO0.out.c 0 rfl
  have oz := HO0.out.2.2
  obtain ⟨k, hk⟩ : ∃ k : Nat, t - a = k := ⟨(t - a).toNat, by omega⟩
  have e16 : wrap64 (t - 16) = t - 16 := IntWalk.wrap64_in _ (by omega)
  have ek : wrap64 (t - a) = (k : Int) := by rw [IntWalk.wrap64_in _ (by omega)]; exact hk
  have g1 : decide (a ≤ t) = true := decide_eq_true h
  have g2 : decide (a > t - 16) = true := by simp; omega
  have g3 : decide (t - 16 < a) = true := by simp; omega
  have hkl : k < L.length := by omega
  have t1 : (k : Int) < (L.length : Int) := by omega
  rw [show (t - a).toNat = k by omega] at hx
  obtain ⟨a1, c1, hv1, hm1, hcs1⟩ := HS0.out
  obtain ⟨rfl, rfl⟩ : sa = a1 ∧ sc = c1 := by simpa using hv1
  obtain ⟨b1, o1, rfl, hx1⟩ := hcs1 (by intro e; rw [e] at hkl; simp at hkl)
  have y0 := hx1 k _ (show L[k]? = some (L.getD k false) by simp [hkl])
  rw [hx] at y0
  have yz := World.block_lt_of_cell? _ _ y0
  clear hcs1 hx1 hv1 hx hk h h6 ht hl hkl hm1
  go_enter Try.func34, Try.ntmps34
  go_wp2
  go_ret
  exact ⟨rfl, HB0.out⟩
end Go.Proofs.Ytkamkkjijjkfdaa
