/- What memory looks like inside the region 'two new variables out of two calls'. -/
import Derived.Test.YtoggmladiakblaaIv
import Derived.Test.YtoggmladiakblaaJk
import Derived.Test.YtoggmladiakblaaJl
namespace Go.Proofs.Ytoggmladiakblaa
open Go.RowKit

def ptr (n : Nat) : Value := .pointer (some ⟨n, 0, none⟩)
structure Mem (B0 w : World) (n1 n2 : Nat) (p1 p2 : Value) (b1 t1 b2 t2 : Bool) (J1 H1 : Array Value) : Prop where
  below : Below B0.heap.size B0 w
  ne : n1 ≠ n2
  le1 : B0.heap.size ≤ n1
  le2 : B0.heap.size ≤ n2
  c1 : b1 = true → p1 = ptr n1 ∧ Cs w n1 (cond t1 J1 zj)
  c2 : b2 = true → p2 = ptr n2 ∧ Cs w n2 (cond t2 H1 zh)
  i1 : b1 = false → t1 = false
  i2 : b2 = false → t2 = false
theorem Mem.start (B0 : World) (p1 p2 : Value) (J1 H1 : Array Value) : Mem B0 B0.drew B0.heap.size (B0.heap.size + 1) p1 p2 false false false false J1 H1 :=
  ⟨below_drew _ _, by omega, Nat.le_refl _, by omega, by simp, by simp, by simp, by simp⟩
theorem Mem.step {B0 w w' : World} {n1 n2 : Nat} {p1 p2 : Value} {b1 t1 b2 t2 : Bool} {J1 H1 : Array Value} (h : Mem B0 w n1 n2 p1 p2 b1 t1 b2 t2 J1 H1) (hb : Below w.heap.size w w') : Mem B0 w' n1 n2 p1 p2 b1 t1 b2 t2 J1 H1 :=
  ⟨keep2 hb h.below, h.ne, h.le1, h.le2, fun x => ⟨(h.c1 x).1, (h.c1 x).2.step hb⟩, fun x => ⟨(h.c2 x).1, (h.c2 x).2.step hb⟩, h.i1, h.i2⟩
theorem Mem.alloc1 {B0 w : World} {n1 n2 : Nat} {p1 p2 : Value} {b1 t1 b2 t2 : Bool} {J1 H1 : Array Value} (h : Mem B0 w n1 n2 p1 p2 b1 t1 b2 t2 J1 H1) (hb : b1 = false) :
    ∃ m2, Mem B0 (w.alloc (.cells zj 23)) w.heap.size m2 (ptr w.heap.size) p2 true t1 b2 t2 J1 H1 := by
  have h' := h.step (al w (.cells zj 23))
  have ht := h.i1 hb
  subst ht
  cases hb2 : b2 with
  | true =>
    subst hb2
    exact ⟨n2, h'.below, by have := (h.c2 rfl).2.2.2; omega, h.below.size, h'.le2, fun _ => ⟨rfl, Cs.new _ _ _ _ rfl⟩, h'.c2, by simp, by simp⟩
  | false =>
    subst hb2
    exact ⟨w.heap.size + 1, h'.below, by omega, h.below.size, Nat.le_succ_of_le h.below.size, fun _ => ⟨rfl, Cs.new _ _ _ _ rfl⟩, by simp, by simp, h.i2⟩
theorem Mem.alloc2 {B0 w : World} {n1 n2 : Nat} {p1 p2 : Value} {b1 t1 b2 t2 : Bool} {J1 H1 : Array Value} (h : Mem B0 w n1 n2 p1 p2 b1 t1 b2 t2 J1 H1) (hb : b2 = false) :
    ∃ m1, Mem B0 (w.alloc (.cells zh 25)) m1 w.heap.size p1 (ptr w.heap.size) b1 t1 true t2 J1 H1 := by
  have h' := h.step (al w (.cells zh 25))
  have ht := h.i2 hb
  subst ht
  cases hb1 : b1 with
  | true =>
    subst hb1
    exact ⟨n1, h'.below, by have := (h.c1 rfl).2.2.2; omega, h'.le1, h.below.size, h'.c1, fun _ => ⟨rfl, Cs.new _ _ _ _ rfl⟩, by simp, by simp⟩
  | false =>
    subst hb1
    exact ⟨w.heap.size + 1, h'.below, by omega, Nat.le_succ_of_le h.below.size, h.below.size, by simp, fun _ => ⟨rfl, Cs.new _ _ _ _ rfl⟩, h.i1, by simp⟩
theorem Mem.store1 {B0 w w' : World} {n1 n2 : Nat} {p1 p2 : Value} {t1 b2 t2 : Bool} {J1 H1 : Array Value} (h : Mem B0 w n1 n2 p1 p2 true t1 b2 t2 J1 H1) (T : Turned n1 J1 w w') : Mem B0 w' n1 n2 p1 p2 true true b2 t2 J1 H1 :=
  ⟨h.below.trans (T.2.1.mono h.le1), h.ne, h.le1, h.le2, fun _ => ⟨(h.c1 rfl).1, T.1⟩, fun x => ⟨(h.c2 x).1, T.2.2 _ _ h.ne.symm (h.c2 x).2⟩, by simp, h.i2⟩
theorem Mem.store2 {B0 w w' : World} {n1 n2 : Nat} {p1 p2 : Value} {t1 b1 t2 : Bool} {J1 H1 : Array Value} (h : Mem B0 w n1 n2 p1 p2 b1 t1 true t2 J1 H1) (T : Turned n2 H1 w w') : Mem B0 w' n1 n2 p1 p2 b1 t1 true true J1 H1 :=
  ⟨h.below.trans (T.2.1.mono h.le2), h.ne, h.le1, h.le2, fun x => ⟨(h.c1 x).1, T.2.2 _ _ h.ne (h.c1 x).2⟩, fun _ => ⟨(h.c2 rfl).1, T.1⟩, h.i1, by simp⟩
theorem Mem.zero1 {B0 w : World} {n1 n2 : Nat} {p1 p2 : Value} {b1 t1 b2 t2 : Bool} {J1 H1 : Array Value} (h : Mem B0 w n1 n2 p1 p2 b1 t1 b2 t2 J1 H1) (hb : b1 = true) (ht : t1 = false) : p1 = ptr n1 ∧ Cs w n1 zj := by
  subst ht; exact h.c1 hb
theorem Mem.zero2 {B0 w : World} {n1 n2 : Nat} {p1 p2 : Value} {b1 t1 b2 t2 : Bool} {J1 H1 : Array Value} (h : Mem B0 w n1 n2 p1 p2 b1 t1 b2 t2 J1 H1) (hb : b2 = true) (ht : t2 = false) : p2 = ptr n2 ∧ Cs w n2 zh := by
  subst ht; exact h.c2 hb
theorem Turned.all7 {w : World} {n : Nat} {a b c d e f g a' b' c' d' e' f' g' : Value} (h : Cs w n #[a, b, c, d, e, f, g]) :
    Turned n #[a', b', c', d', e', f', g'] w (((((((w.setCell ⟨n, 0, none⟩ a').setCell ⟨n, 1, none⟩ b').setCell ⟨n, 2, none⟩ c').setCell ⟨n, 3, none⟩ d').setCell ⟨n, 4, none⟩ e').setCell ⟨n, 5, none⟩ f').setCell ⟨n, 6, none⟩ g') :=
  (((((((Turned.refl h).set 0 (by simp) a' (vs' := #[a', b, c, d, e, f, g]) rfl).set 1 (by simp) b' (vs' := #[a', b', c, d, e, f, g]) rfl).set 2 (by simp) c' (vs' := #[a', b', c', d, e, f, g]) rfl).set 3 (by simp) d' (vs' := #[a', b', c', d', e, f, g]) rfl).set 4 (by simp) e' (vs' := #[a', b', c', d', e', f, g]) rfl).set 5 (by simp) f' (vs' := #[a', b', c', d', e', f', g]) rfl).set 6 (by simp) g' rfl
theorem Turned.all3 {w : World} {n : Nat} {a b c a' b' c' : Value} (h : Cs w n #[a, b, c]) :
    Turned n #[a', b', c'] w (((w.setCell ⟨n, 0, none⟩ a').setCell ⟨n, 1, none⟩ b').setCell ⟨n, 2, none⟩ c') :=
  (((Turned.refl h).set 0 (by simp) a' (vs' := #[a', b, c]) rfl).set 1 (by simp) b' (vs' := #[a', b', c]) rfl).set 2 (by simp) c' rfl
end Go.Proofs.Ytoggmladiakblaa
