/- The window: 'Accept', any number. -/
import Derived.Test.YtkamkkjijjkfdaaVf
namespace Go.Proofs.Ytkamkkjijjkfdaa
open Go.RowKit

theorem row_cap {w : World} {base e s n c m : Nat} {a : Option Addr} {xs : List Value} (h : w.ownsRow base e s (.slice a n c) m xs) : n ≤ c := by
  rcases h.2 with ⟨e, h0⟩ | ⟨g, cp, cur, e, -, -, h1, -⟩
  · cases e; exact Nat.le_refl _
  · obtain ⟨-, rfl, rfl⟩ : a = some ⟨g, 0, none⟩ ∧ n = m ∧ c = cp := by simpa using e
    exact h1
/-- What stands behind the copy. -/
def AcG (wq : World) (t : Int) (n : Nat) (L : List Bool) (p : Value) (wc : World) : Prop :=
  ∃ (g uc : Nat) (ua : Option Addr), p = .pointer (some ⟨g, 0, none⟩) ∧ wq.heap.size ≤ g ∧ (∀ k, ua = some ⟨k, 0, none⟩ → k ≠ g) ∧ Cs wc g #[.int .i64 t, .slice ua n uc] ∧ wc.ownsRow wq.heap.size 4 1 (.slice ua n uc) n (L.map Value.bool) ∧ Below wq.heap.size wq wc
theorem AcG.after {wq w3 : World} {t : Int} {n : Nat} {L : List Bool} {B uc : Nat} {ua : Option Addr} (h : Below wq.heap.size wq w3) (hu : w3.ownsRow B 4 1 (.slice ua n uc) n (L.map Value.bool)) (hB : wq.heap.size ≤ B) :
    AcG wq t n L (.pointer (some ⟨w3.heap.size, 0, none⟩)) (w3.alloc (.cells #[.int .i64 t, .slice ua n uc] 27)) :=
  ⟨_, uc, ua, rfl, h.size, fun g hg => (by have := (row_lt0 hu hg).2; omega), Cs.new w3 _ _ 27 rfl, row_step (row_base0 hu hB) (al _ _), h.alloc h.size _⟩
theorem AcG.before {wq w3 : World} {t : Int} {n : Nat} {L : List Bool} {B uc : Nat} {ua : Option Addr} (h : Below wq.heap.size wq w3) (hu : w3.ownsRow B 4 1 (.slice ua n uc) n (L.map Value.bool)) (hB : wq.heap.size < B) (hc : Cs w3 wq.heap.size #[.int .i64 0, .slice none 0 0]) :
    AcG wq t n L (.pointer (some ⟨wq.heap.size, 0, none⟩)) ((w3.setCell ⟨wq.heap.size, 0, none⟩ (.int .i64 t)).setCell ⟨wq.heap.size, 1, none⟩ (.slice ua n uc)) :=
  ⟨_, uc, ua, rfl, Nat.le_refl _, fun g hg => (by have := (row_lt0 hu hg).1; omega), Cs.set (Cs.set hc 0 (by simp) (.int .i64 t) rfl) 1 (by simp) (.slice ua n uc) rfl, row_base0 (ownsRow_setCell_below (ownsRow_setCell_below hu (a := ⟨wq.heap.size, 0, none⟩) hB _) (a := ⟨wq.heap.size, 1, none⟩) hB _) (Nat.le_of_lt hB), (h.setCell (p := ⟨wq.heap.size, 0, none⟩) (Nat.le_refl _) _).setCell (p := ⟨wq.heap.size, 1, none⟩) (Nat.le_refl _) _⟩
/-- What 'isWindow' says of a window. -/
def IsW (t : Int) (a : Option Addr) (n c : Nat) (L : List Bool) (r : Bool) : Prop := ∀ W, BosAt W (.slice a n c) L → Calls Try.prog 55 #[.agg #[.int .i64 t, .slice a n c]] W fun e W' => e = .returned (.bool r) ∧ Below W.heap.size W W'
/-- What 'Accept' returns. -/
def AcP (w : World) (t : Int) (L : List Bool) (er : Int) (e : Ending) (w' : World) : Prop :=
  ∃ (aa : Option Addr) (cc : Nat), e = .returned (.tuple #[.agg #[.int .i64 t, .slice aa L.length cc], .int .i64 er]) ∧ L.length ≤ cc ∧ BosAt w' (.slice aa L.length cc) L ∧ Below w.heap.size w w'
theorem bos_row {w : World} {base n : Nat} {t : TypeId} {v : Value} {xs : List Bool} (hn : xs.length = n) (h : w.ownsRow base t 1 v n (xs.map Value.bool)) : BosAt w v xs := by
  subst hn
  exact bos_of_row h
theorem AcP.mk {w W : World} {t er : Int} {L : List Bool} {n uc : Nat} {ua : Option Addr} (hn : L.length = n) (hc : n ≤ uc) (hb : BosAt W (.slice ua n uc) L) (hB : Below w.heap.size w W) : AcP w t L er (.returned (.tuple #[.agg #[.int .i64 t, .slice ua n uc], .int .i64 er])) W := by
  subst hn
  exact ⟨ua, uc, rfl, hc, hb, hB⟩
theorem bos_set {w : World} {base gg n uc d : Nat} {L : List Bool} (hn : L.length = n) (h : w.ownsRow base 4 1 (.slice (some ⟨gg, 0, none⟩) n uc) n (L.map Value.bool)) (hd : d < n) (r : Nat) (hr : r ≠ gg) (x y : Value) :
    BosAt (((w.setCell ⟨gg, d, none⟩ (.bool true)).setCell ⟨r, 0, none⟩ x).setCell ⟨r, 1, none⟩ y) (.slice (some ⟨gg, 0, none⟩) n uc) (L.set d true) := by
  subst hn
  obtain ⟨a, cap, hv, hm, hc⟩ := bos_of_row h
  obtain ⟨b, off, ha, hx⟩ := hc (by intro e; rw [e] at hd; simp at hd)
  obtain ⟨hg, rfl⟩ : some (⟨gg, 0, none⟩ : Addr) = a ∧ uc = cap := by simpa using hv
  obtain ⟨rfl, rfl⟩ : gg = b ∧ 0 = off := by rw [ha] at hg; simpa using hg
  refine ⟨a, uc, by rw [← hg, List.length_set], by rw [List.length_set]; exact hm, fun _ => ⟨gg, 0, hg.symm, fun i z hi => ?_⟩⟩
  have hne : ∀ (k j : Nat), (⟨gg, k, none⟩ : Addr) ≠ ⟨r, j, none⟩ := fun k j e => hr (by injection e with e1; exact e1.symm)
  rw [World.cell?_setCell_other _ _ _ _ (by intro e; exact hne _ _ (by first | exact e | exact e.symm)), World.cell?_setCell_other _ _ _ _ (by intro e; exact hne _ _ (by first | exact e | exact e.symm)), Nat.zero_add]
  by_cases e : d = i
  · subst e
    rw [List.getElem?_set_self hd] at hi
    have h1 := hx d _ (bo_get hd)
    rw [Nat.zero_add] at h1
    rw [World.cell?_setCell_same _ _ _ h1, Option.some.inj hi]
  · rw [List.getElem?_set_ne e] at hi
    have h1 := hx i z hi
    rw [Nat.zero_add] at h1
    rw [World.cell?_setCell_other _ _ _ _ (by intro h2; injection h2 with _ h3; exact e h3), h1]
end Go.Proofs.Ytkamkkjijjkfdaa
