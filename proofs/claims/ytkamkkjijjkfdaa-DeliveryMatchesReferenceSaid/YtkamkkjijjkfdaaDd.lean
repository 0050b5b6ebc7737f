/- Delivery: 'receive'. -/
import Derived.Test.YtkamkkjijjkfdaaDc
import Derived.Test.YtkamkkjijjkfdaaYf
namespace Go.Proofs.Ytkamkkjijjkfdaa
open Go.RowKit

theorem ints_set {w : World} {base g n c x : Nat} {y : Int} {l : List Int} (h : w.ownsRow base 3 1 (.slice (some ⟨g, 0, none⟩) n c) l.length (l.map (Value.int .i64))) (hx : x < l.length) : IntsAt (w.setCell ⟨g, x, none⟩ (.int .i64 y)) (.slice (some ⟨g, 0, none⟩) n c) (l.set x y) := by
  obtain ⟨a, cap, hv, hm, hc⟩ := ints_of_row h
  obtain ⟨b, off, ha, hcs⟩ := hc (by intro e; rw [e] at hx; simp at hx)
  obtain ⟨hg, hn, hcc⟩ : some (⟨g, 0, none⟩ : Addr) = a ∧ n = l.length ∧ c = cap := by simpa using hv
  obtain ⟨rfl, rfl⟩ : g = b ∧ 0 = off := by rw [ha] at hg; simpa using hg
  subst hn hcc
  refine ⟨a, c, by rw [← hg, List.length_set], by rw [List.length_set]; exact hm, fun _ => ⟨g, 0, hg.symm, fun i z hi => ?_⟩⟩
  rw [Nat.zero_add]
  by_cases e : x = i
  · subst e
    rw [List.getElem?_set_self hx] at hi
    have h1 := hcs x _ (getD_of hx)
    rw [Nat.zero_add] at h1
    rw [World.cell?_setCell_same _ _ _ h1, Option.some.inj hi]
  · rw [List.getElem?_set_ne e] at hi
    have h1 := hcs i z hi
    rw [Nat.zero_add] at h1
    rw [World.cell?_setCell_other _ _ _ _ (by intro h2; injection h2 with _ h3; exact e h3), h1]
theorem ints_other {w : World} {g n c b : Nat} {l : List Int} (h : IntsAt w (.slice (some ⟨g, 0, none⟩) n c) l) (hne : g ≠ b) (j : Nat) (v : Value) : IntsAt (w.setCell ⟨b, j, none⟩ v) (.slice (some ⟨g, 0, none⟩) n c) l := by
  obtain ⟨a, cap, hv, hm, hc⟩ := h
  refine ⟨a, cap, hv, hm, fun hl => ?_⟩
  obtain ⟨b1, off, ha, hx⟩ := hc hl
  have hg : some (⟨g, 0, none⟩ : Addr) = a := by simp at hv; exact hv.1
  obtain rfl : b1 = g := by rw [ha] at hg; simp at hg; exact hg.1.symm
  exact ⟨b1, off, ha, fun i x h => (World.cell?_of_block (a := ⟨b1, off + i, none⟩) (Below.heap_setCell w ⟨b, j, none⟩ v b1 hne)).trans (hx i x h)⟩
theorem bos_oth {w : World} {aa : Option Addr} {n c b : Nat} {l : List Bool} (h : BosAt w (.slice aa n c) l) (hne : ∀ g o, aa = some ⟨g, o, none⟩ → g ≠ b) (j : Nat) (v : Value) : BosAt (w.setCell ⟨b, j, none⟩ v) (.slice aa n c) l := by
  obtain ⟨a, cap, hv, hm, hc⟩ := h
  refine ⟨a, cap, hv, hm, fun hl => ?_⟩
  obtain ⟨b1, off, ha, hx⟩ := hc hl
  have hg : aa = a := by simp at hv; exact hv.1
  have hn := hne b1 off (hg.trans ha)
  exact ⟨b1, off, ha, fun i x h => (World.cell?_of_block (a := ⟨b1, off + i, none⟩) (Below.heap_setCell w ⟨b, j, none⟩ v b1 hn)).trans (hx i x h)⟩
/-- What 'Accept' gives, in a block of its own. -/
def WnG (wq : World) (T : Int) (A : List Bool) (er : Int) (p q : Value) (wc : World) : Prop :=
  ∃ (k cc : Nat) (aa : Option Addr), p = .pointer (some ⟨k, 0, none⟩) ∧ q = .int .i64 er ∧ wq.heap.size ≤ k ∧ (∀ g o, aa = some ⟨g, o, none⟩ → wq.heap.size ≤ g) ∧ Cs wc k #[.int .i64 T, .slice aa A.length cc] ∧ BosAt wc (.slice aa A.length cc) A ∧ A.length ≤ cc ∧ Below wq.heap.size wq wc
theorem WnG.after {wq w3 : World} {T er : Int} {A : List Bool} {aa : Option Addr} {cc : Nat} (h : Below wq.heap.size wq w3) (hg : BosAt w3 (.slice aa A.length cc) A) (hc : A.length ≤ cc) (hl : ∀ g o, aa = some ⟨g, o, none⟩ → wq.heap.size ≤ g) :
    WnG wq T A er (.pointer (some ⟨w3.heap.size, 0, none⟩)) (.int .i64 er) (w3.alloc (.cells #[.int .i64 T, .slice aa A.length cc] 27)) :=
  ⟨_, cc, aa, rfl, rfl, h.size, hl, Cs.new w3 _ _ 27 rfl, hg.step (al _ _), hc, h.alloc h.size _⟩
theorem WnG.before {wq w3 : World} {T er : Int} {A : List Bool} {aa : Option Addr} {cc : Nat} (h : Below wq.heap.size wq w3) (hg : BosAt w3 (.slice aa A.length cc) A) (hcl : A.length ≤ cc) (hl : ∀ g o, aa = some ⟨g, o, none⟩ → wq.heap.size < g) (hc : Cs w3 wq.heap.size #[.int .i64 0, .slice none 0 0]) :
    WnG wq T A er (.pointer (some ⟨wq.heap.size, 0, none⟩)) (.int .i64 er) ((w3.setCell ⟨wq.heap.size, 0, none⟩ (.int .i64 T)).setCell ⟨wq.heap.size, 1, none⟩ (.slice aa A.length cc)) :=
  ⟨_, cc, aa, rfl, rfl, Nat.le_refl _, fun g o e => Nat.le_of_lt (hl g o e), Cs.set (Cs.set hc 0 (by simp) (.int .i64 T) rfl) 1 (by simp) (.slice aa A.length cc) rfl, bos_oth (bos_oth hg (fun g o e => by have := hl g o e; omega) 0 _) (fun g o e => by have := hl g o e; omega) 1 _, hcl, (h.setCell (p := ⟨wq.heap.size, 0, none⟩) (Nat.le_refl _) _).setCell (p := ⟨wq.heap.size, 1, none⟩) (Nat.le_refl _) _⟩
end Go.Proofs.Ytkamkkjijjkfdaa
