/- Rows of bytes: appended to, and put otherwise. -/
import Derived.Test.YtebeaekiaikgmaaOd
namespace Go.Proofs.Ytebeaekiaikgmaa
open Go.RowKit

/-- Bytes in a block of one's own. -/
def RowB (n0 : Nat) (v : Value) (l : List Int) (w : World) : Prop := w.ownsRow n0 5 1 v l.length (l.map (Value.int .u8))
theorem RowB.step {n0 : Nat} {v : Value} {l : List Int} {w w' : World} (h : RowB n0 v l w) (hb : Below w.heap.size w w') : RowB n0 v l w' := row_step h hb
theorem RowB.bys {n0 : Nat} {v : Value} {l : List Int} {w : World} (h : RowB n0 v l w) : BysAt w v l := bys_of_row h
theorem by_cells {w : World} {a : Option Addr} {cap : Nat} {l : List Int} (h : BysAt w (.slice a l.length cap) l) (ad : Addr) (ha : a = some ad) : ∀ j u, (l.map (Value.int .u8))[j]? = some u → w.cell? (ad.add j) = some u := by
  intro j u hu
  obtain ⟨a', cap', he, -, -, hc⟩ := h
  obtain ⟨rfl, rfl⟩ : a = a' ∧ cap = cap' := by simpa using he
  rw [List.getElem?_map] at hu
  cases hj : l[j]? with
  | none => rw [hj] at hu; cases hu
  | some x =>
    rw [hj] at hu
    obtain ⟨b', off', ha', hx⟩ := hc (by intro e; rw [e] at hj; cases hj)
    rw [ha] at ha'
    obtain rfl : ad = ⟨b', off', none⟩ := by simpa using ha'
    rw [Go.WideShapes.add_plain, hx j x hj]
    exact hu
theorem by_one (l : List Int) : ∀ u ∈ l.map (Value.int .u8), u.oneCell' = true := by
  intro u hu
  rw [List.mem_map] at hu
  obtain ⟨x, -, rfl⟩ := hu
  rfl
/-- An append of bytes that may be nil, as an equation. -/
theorem run_appB (w : World) (base n : Nat) (v sl : Value) (xs : List Value) (l : List Int) (ty : TypeId) (hown : w.ownsRow base 5 1 v n xs) (h : BysAt w sl l) (hn : n + l.length ≤ 10000) (hb : base ≤ w.heap.size) :
    ∃ v' w', (Builtin.append_ #[25, 25] ty #[v, sl]).run Try.prog w = .ok v' w' ∧ w'.ownsRow base 5 1 v' (n + l.length) (xs ++ l.map (Value.int .u8)) ∧ w.grownBy w' v.ownBlock := by
  obtain ⟨i0, hi, hz0, hz1, hz2⟩ := info_parts infoBy
  obtain ⟨a, cap, rfl, hk, hm, hc⟩ := h
  cases a with
  | none =>
    have hl : l = [] := by
      cases l with
      | nil => rfl
      | cons x l => obtain ⟨b, off, e, -⟩ := hc (by simp); cases e
    subst hl
    have hg : w.grownBy w v.ownBlock := ⟨rfl, rfl, rfl, Nat.le_refl _, fun _ _ _ => rfl⟩
    refine ⟨v, w, ?_, by simpa using hown, hg⟩
    rcases hown.2 with ⟨rfl, rfl⟩ | ⟨g, c, cur, rfl, _, _, hnc, _⟩
    · simp [Builtin.append_, run_underlying Try.underlying25, sizeOf, typeInfo, hi, Builtin.lenOf, Builtin.firstCells]
    · simp [Builtin.append_, run_underlying Try.underlying25, sizeOf, typeInfo, hi, Builtin.lenOf, Builtin.firstCells, hnc, storeCells]
  | some ad =>
    have hcell := by_cells (w := w) (a := some ad) (cap := cap) (l := l) ⟨some ad, cap, rfl, hk, hm, hc⟩ ad rfl
    obtain ⟨v', w', h1, h2, h3, -, -⟩ := run_append_own_at (P := Try.prog) w base 25 ty 5 i0 _ 1 1 Try.underlying25 hi hz0 hz1 hz2 rfl (by decide) v n xs hown ad l.length cap (l.map (Value.int .u8)) (by simp) hcell (by_one l) (by unfold maxLen; omega) (by omega) hb
    exact ⟨v', w', h1, h2, h3⟩
/-- An empty new row, to which bytes are appended. -/
theorem row0 (w : World) : (w.alloc (.cells #[] 5)).ownsRow w.heap.size 5 1 (.slice (some ⟨w.heap.size, 0, none⟩) 0 0) 0 [] :=
  ⟨rfl, .inr ⟨w.heap.size, 0, _, rfl, Nat.le_refl _, heap_alloc_new _ _, by omega, by unfold maxLen; omega, rfl, rfl⟩⟩
theorem app0 (w w1 : World) (sl : Value) (l : List Int) (ty : TypeId) (g : Nat) (hg : w.heap.size = g) (hb : Below (w.alloc (.cells #[] 5)).heap.size (w.alloc (.cells #[] 5)) w1) (h : BysAt w1 sl l) (hn : l.length ≤ 10000) :
    ∃ v' w', (Builtin.append_ #[25, 25] ty #[.slice (some ⟨g, 0, none⟩) 0 0, sl]).run Try.prog w1 = .ok v' w' ∧ (∃ p q, v' = .slice p l.length q) ∧ RowB w.heap.size v' l w' ∧ Below w.heap.size w w' := by
  subst hg
  obtain ⟨v', w', h1, h2, h3⟩ := run_appB w1 w.heap.size 0 _ sl _ l ty (row_step (row0 w) hb) h (by omega) (by have := hb.size; simp at this; omega)
  rw [Nat.zero_add, List.nil_append] at h2
  refine ⟨v', w', h1, row_slice h2, h2, (keep2 hb (al w _)).grown h3 (by have := hb.size; simp at this; omega) (fun k e => by cases e; exact Nat.le_refl _)⟩
theorem app1 (w w0 : World) (n0 : Nat) (v sl : Value) (xs l : List Int) (ty : TypeId) (hr : RowB n0 v xs w) (h : BysAt w sl l) (hn : xs.length + l.length ≤ 10000) (hb : Below w0.heap.size w0 w) (h0 : w0.heap.size ≤ n0) (h1 : n0 ≤ w.heap.size) :
    ∃ v' w', (Builtin.append_ #[25, 25] ty #[v, sl]).run Try.prog w = .ok v' w' ∧ (∃ p q, v' = .slice p (xs.length + l.length) q) ∧ BysAt w' v' (xs ++ l) ∧ Below w0.heap.size w0 w' := by
  obtain ⟨v', w', h2, h3, h4⟩ := run_appB w n0 xs.length v sl _ l ty hr h hn h1
  refine ⟨v', w', h2, row_slice h3, bys_of_row (base := n0) (t := 5) (by rw [List.length_append, List.map_append]; exact h3), hb.grown h4 hb.size (fun k e => Nat.le_trans h0 (row_own hr e))⟩
theorem RowB.byl {n0 : Nat} {v : Value} {l : List Int} {w : World} (h : RowB n0 v l w) : ∃ g c, l ≠ [] → v = .slice (some ⟨g, 0, none⟩) l.length c ∧ l.length ≤ c ∧ n0 ≤ g ∧ g < w.heap.size := by
  rcases h.2 with ⟨rfl, hn⟩ | ⟨g, cap, cur, rfl, hbg, hg, hnc, hcm, hcur, htake⟩
  · exact ⟨0, 0, fun h => absurd (by simpa using hn) h⟩
  · exact ⟨g, cap, fun _ => ⟨rfl, hnc, hbg, (Array.getElem?_eq_some_iff.1 hg).1⟩⟩
theorem BysAt.cut {w : World} {a : Option Addr} {n c k : Nat} {l : List Int} (h : BysAt w (.slice a n c) l) (hk : k ≤ l.length) : BysAt w (.slice a k c) (l.take k) := by
  obtain ⟨a', c', hv, h1, h2, h3⟩ := h
  obtain ⟨rfl, rfl, rfl⟩ : a = a' ∧ n = l.length ∧ c = c' := by simpa using hv
  have hl : (l.take k).length = k := by rw [List.length_take]; omega
  refine ⟨a, c, by rw [hl], by omega, by omega, fun hne => ?_⟩
  obtain ⟨b, off, ha, hx⟩ := h3 (by intro e; rw [e] at hne; simp at hne)
  refine ⟨b, off, ha, fun i x hi => hx i x ?_⟩
  rw [List.getElem?_take] at hi
  split at hi
  · exact hi
  · cases hi
theorem BysAt.at {w : World} {g n c k : Nat} {l : List Int} (h : BysAt w (.slice (some ⟨g, 0, none⟩) n c) l) (hk : k < l.length) : w.cell? ⟨g, k, none⟩ = some (.int .u8 (l.getD k 0)) := by
  obtain ⟨a', c', hv, h1, h2, h3⟩ := h
  obtain ⟨rfl, rfl, rfl⟩ : some (⟨g, 0, none⟩ : Addr) = a' ∧ n = l.length ∧ c = c' := by simpa using hv
  obtain ⟨b, off, ha, hx⟩ := h3 (by intro e; rw [e] at hk; simp at hk)
  obtain ⟨rfl, rfl⟩ : g = b ∧ 0 = off := by simpa using ha
  have := hx k _ (getD_of hk)
  rwa [Nat.zero_add] at this
theorem BysAt.put {w : World} {g n c k : Nat} {y : Int} {l : List Int} (h : BysAt w (.slice (some ⟨g, 0, none⟩) n c) l) (hk : k < l.length) : BysAt (w.setCell ⟨g, k, none⟩ (.int .u8 y)) (.slice (some ⟨g, 0, none⟩) n c) (l.set k y) := by
  have h00 := h.at hk
  obtain ⟨a', c', hv, h1, h2, h3⟩ := h
  obtain ⟨rfl, rfl, rfl⟩ : some (⟨g, 0, none⟩ : Addr) = a' ∧ n = l.length ∧ c = c' := by simpa using hv
  obtain ⟨b, off, ha, hx⟩ := h3 (by intro e; rw [e] at hk; simp at hk)
  obtain ⟨rfl, rfl⟩ : g = b ∧ 0 = off := by simpa using ha
  refine ⟨_, c, by rw [List.length_set], by rw [List.length_set]; exact h1, by rw [List.length_set]; exact h2, fun _ => ⟨g, 0, rfl, fun i z hi => ?_⟩⟩
  rw [Nat.zero_add]
  by_cases e : k = i
  · subst e
    rw [List.getElem?_set_self hk] at hi
    rw [World.cell?_setCell_same _ _ _ h00, Option.some.inj hi]
  · rw [List.getElem?_set_ne e] at hi
    have h1 := hx i z hi
    rw [Nat.zero_add] at h1
    rw [World.cell?_setCell_other _ _ _ _ (by intro h2; injection h2 with _ h3; exact e h3), h1]
theorem RowB.frozen {n0 g n c k : Nat} {l : List Int} {w : World} (h : RowB n0 (.slice (some ⟨g, 0, none⟩) n c) l w) : w.frozen? ⟨g, k, none⟩ = false := by
  rcases h.2 with ⟨e, hn⟩ | ⟨g', cap, cur, e, hbg, hg, hnc, hcm, hcur, htake⟩
  · cases e
  · cases e
    simp only [World.frozen?, hg]
    simp
theorem by_bd {l : List Int} (h : IsBy l) {k : Nat} (hk : k < l.length) : 0 ≤ l.getD k 0 ∧ l.getD k 0 ≤ 255 := h _ (List.mem_of_getElem? (getD_of hk))
theorem IsBy.take {l : List Int} (h : IsBy l) (k : Nat) : IsBy (l.take k) := fun x hx => h x (List.mem_of_mem_take hx)
theorem IsBy.set {l : List Int} (h : IsBy l) (k : Nat) {y : Int} (hy : 0 ≤ y ∧ y ≤ 255) : IsBy (l.set k y) := fun x hx => by
  rcases List.mem_or_eq_of_mem_set hx with h1 | rfl
  · exact h x h1
  · exact hy
/-- Bytes that are decoded exactly if something holds. -/
theorem dec_any (v : Value) (L : List Int) (w : World) (p : Bool) (h : BysAt w v L) (hb : IsBy L) (h9 : L.length ≤ 2000) (hy : p = true → ∃ a b c d l t, vaB a b c d l t = true ∧ L = encF a b c d l t) (hn : p = false → ∀ n, 23 ≤ L.length → decE L n ≠ L) :
    ∃ A B C D M T er, ((er == (0 : Int)) = p) ∧ Calls Try.prog 13 #[v] w (DcP w A B C D M T er) := by
  cases p
  · exact ⟨0, 0, 0, 0, [], 0, 24, rfl, decode_no v L w h hb h9 (hn rfl)⟩
  · obtain ⟨a, b, c, d, l, t, hv, rfl⟩ := hy rfl
    exact ⟨a, b, c, d, l, t, 0, rfl, decode_enc hv v w h⟩
end Go.Proofs.Ytebeaekiaikgmaa
