/- Two appends in a row to a new, empty slice of texts. -/
import Derived.Test.YtloilkfloidnjaaU
import Derived.Deep.AppendLies
namespace Go.Proofs.Ytloilkfloidnjaa
open Go.RowKit Go.WideMaps

theorem names_of_row {w : World} {base : Nat} {v : Value} {l : List ByteArray} (hl : l.length ≤ 1000) (h : w.ownsRow base 9 1 v l.length (l.map .string)) : NamesAt w v l := by
  have hc := fun g (hg : v.ownBlock = some g) => h.cells hg
  rcases h.2 with ⟨rfl, h0⟩ | ⟨g, cap, cur, rfl, -⟩
  · have : l = [] := List.length_eq_zero_iff.1 h0
    subst this
    exact ⟨none, 0, rfl, by simp, fun h => absurd rfl h⟩
  · refine ⟨some ⟨g, 0, none⟩, cap, rfl, by unfold maxLen; omega, fun _ => ⟨g, 0, rfl, fun i x hi => ?_⟩⟩
    have := hc g rfl i (.string x) (by rw [List.getElem?_map, hi]; rfl)
    rw [Go.WideShapes.add_plain] at this
    exact this
theorem info9 : (Try.prog.info? 9).map (fun i => (i.zero, i.size, i.bytes)) = some (some (.string ⟨#[]⟩), 1, 16) := by kernel_rfl
theorem append_none (W : World) (g : Nat) (an : Option Addr) (cn : Nat) :
    (Builtin.append_ #[23, 23] 23 #[.slice (some ⟨g, 0, none⟩) 0 0, .slice an 0 cn]).run Try.prog W = .ok (.slice (some ⟨g, 0, none⟩) 0 0) W := by
  obtain ⟨i0, hi, hz0, hz1, hz2⟩ := info_parts info9
  cases an <;> simp [Builtin.append_, run_underlying Try.underlying23, sizeOf, typeInfo, hi, Builtin.lenOf, Builtin.firstCells, storeCells, loadCells, loadCellsFrom]
theorem app1 {X : World} {an : Option Addr} {cn : Nat} {N : List ByteArray} (hn : NamesAt X (.slice an N.length cn) N) (hl : N.length ≤ 100) {base g : Nat} (hrow : X.ownsRow base 9 1 (.slice (some ⟨g, 0, none⟩) 0 0) 0 []) (hb : base ≤ X.heap.size) :
    ∃ g' cap' X', (Builtin.append_ #[23, 23] 23 #[.slice (some ⟨g, 0, none⟩) 0 0, .slice an N.length cn]).run Try.prog X = .ok (.slice (some ⟨g', 0, none⟩) N.length cap') X' ∧
      X'.ownsRow base 9 1 (.slice (some ⟨g', 0, none⟩) N.length cap') N.length (N.map .string) ∧ X.grownBy X' (some g) := by
  obtain ⟨i0, hi, hz0, hz1, hz2⟩ := info_parts info9
  cases N with
  | nil => exact ⟨g, 0, X, append_none X g an cn, hrow, World.grownBy.refl _ _⟩
  | cons x N =>
    obtain ⟨a, c, h1, -, h2⟩ := hn
    simp only [Value.slice.injEq, true_and] at h1
    obtain ⟨rfl, rfl⟩ := h1
    obtain ⟨b, off, rfl, hx⟩ := h2 (by simp)
    obtain ⟨g', cap', X', hr, h3, h4, -, -⟩ := run_append_lies (P := Try.prog) X 23 23 base 9 i0 _ 1 16 Try.underlying23 hi hz0 hz1 hz2 rfl (by decide) (.slice (some ⟨g, 0, none⟩) 0 0) 0 [] hrow ⟨b, off, none⟩ (x :: N).length cn ((x :: N).map .string) (by simp)
      (fun j u hj => by
        rw [List.getElem?_map] at hj
        cases hy : (x :: N)[j]? with
        | none => rw [hy] at hj; cases hj
        | some y => rw [hy] at hj; simp only [Option.map_some, Option.some.injEq] at hj; subst hj; rw [Go.WideShapes.add_plain]; exact hx j y hy)
      (fun u hu => by obtain ⟨y, -, rfl⟩ := List.mem_map.1 hu; rfl) (by simp) (by unfold maxLen; omega) (by omega) hb _ rfl
    refine ⟨g', cap', X', ?_, ?_, h4⟩
    · rw [hr, Nat.zero_add]
    · rw [Nat.zero_add] at h3; exact h3
theorem app2 {X : World} {base g n cap b : Nat} {xs : List Value} {nm : ByteArray} (hrow : X.ownsRow base 9 1 (.slice (some ⟨g, 0, none⟩) n cap) n xs) (hc : X.cell? ⟨b, 0, none⟩ = some (.string nm)) (hn : n ≤ 100) (hb : base ≤ X.heap.size) :
    ∃ g' cap' X', (Builtin.append_ #[23, 23] 23 #[.slice (some ⟨g, 0, none⟩) n cap, .slice (some ⟨b, 0, none⟩) 1 1]).run Try.prog X = .ok (.slice (some ⟨g', 0, none⟩) (n + 1) cap') X' ∧
      X'.ownsRow base 9 1 (.slice (some ⟨g', 0, none⟩) (n + 1) cap') (n + 1) (xs ++ [.string nm]) ∧ X.grownBy X' (some g) := by
  obtain ⟨i0, hi, hz0, hz1, hz2⟩ := info_parts info9
  obtain ⟨g', cap', X', hr, h3, h4, -, -⟩ := run_append_lies (P := Try.prog) X 23 23 base 9 i0 _ 1 16 Try.underlying23 hi hz0 hz1 hz2 rfl (by decide) (.slice (some ⟨g, 0, none⟩) n cap) n xs hrow ⟨b, 0, none⟩ 1 1 [.string nm] rfl
    (fun j u hj => by
      cases j with
      | zero => simp at hj; subst hj; rw [Go.WideShapes.add_plain]; exact hc
      | succ j => simp at hj)
    (by simp [Value.oneCell']) (by omega) (by unfold maxLen; omega) (by omega) hb _ rfl
  exact ⟨g', cap', X', hr, h3, h4⟩
/-- Both appends, the new element's block standing already. -/
theorem app_both {w5 X : World} {an : Option Addr} {cn : Nat} {N : List ByteArray} {nm : ByteArray} (hn : NamesAt w5 (.slice an N.length cn) N) (hl : N.length ≤ 100) (hB : Below w5.heap.size w5 X) {g b : Nat}
    (hrow : X.ownsRow w5.heap.size 9 1 (.slice (some ⟨g, 0, none⟩) 0 0) 0 []) (hb : X.cell? ⟨b, 0, none⟩ = some (.string nm)) (hne : b ≠ g) :
    ∃ gA cA XA gB cB XB, (Builtin.append_ #[23, 23] 23 #[.slice (some ⟨g, 0, none⟩) 0 0, .slice an N.length cn]).run Try.prog X = .ok (.slice (some ⟨gA, 0, none⟩) N.length cA) XA ∧
      (Builtin.append_ #[23, 23] 23 #[.slice (some ⟨gA, 0, none⟩) N.length cA, .slice (some ⟨b, 0, none⟩) 1 1]).run Try.prog XA = .ok (.slice (some ⟨gB, 0, none⟩) (N.length + 1) cB) XB ∧
      Below w5.heap.size w5 XA ∧ Below w5.heap.size w5 XB ∧ NamesAt XB (.slice (some ⟨gB, 0, none⟩) (N.length + 1) cB) (N ++ [nm]) := by
  obtain ⟨gA, cA, XA, r1, o1, k1⟩ := app1 (hn.step hB) hl hrow hB.size
  have hBA := hB.grown k1 hB.size (fun j hj => by cases hj; exact (hrow.lt g rfl).1)
  have hbA : XA.cell? ⟨b, 0, none⟩ = some (.string nm) := (cell_grown k1 (World.block_lt_of_cell? _ _ hb) hne).trans hb
  obtain ⟨gB, cB, XB, r2, o2, k2⟩ := app2 o1 hbA hl hBA.size
  have hBB := hBA.grown k2 hBA.size (fun j hj => by cases hj; exact (o1.lt gA rfl).1)
  refine ⟨gA, cA, XA, gB, cB, XB, r1, r2, hBA, hBB, ?_⟩
  have e : (N ++ [nm]).length = N.length + 1 := by simp
  rw [← e] at o2 ⊢
  exact names_of_row (base := w5.heap.size) (by simp; omega) (by rw [List.map_append]; exact o2)
/-- Both appends, the new element's block made between them. -/
theorem app_late {w5 X : World} {an : Option Addr} {cn : Nat} {N : List ByteArray} {nm : ByteArray} (hn : NamesAt w5 (.slice an N.length cn) N) (hl : N.length ≤ 100) (hB : Below w5.heap.size w5 X) {g : Nat}
    (hrow : X.ownsRow w5.heap.size 9 1 (.slice (some ⟨g, 0, none⟩) 0 0) 0 []) :
    ∃ gA cA XA gB cB XB, (Builtin.append_ #[23, 23] 23 #[.slice (some ⟨g, 0, none⟩) 0 0, .slice an N.length cn]).run Try.prog X = .ok (.slice (some ⟨gA, 0, none⟩) N.length cA) XA ∧
      (Builtin.append_ #[23, 23] 23 #[.slice (some ⟨gA, 0, none⟩) N.length cA, .slice (some ⟨XA.heap.size, 0, none⟩) 1 1]).run Try.prog (XA.alloc (.cells #[.string nm] 9)) = .ok (.slice (some ⟨gB, 0, none⟩) (N.length + 1) cB) XB ∧
      Below w5.heap.size w5 XA ∧ Below w5.heap.size w5 XB ∧ NamesAt XB (.slice (some ⟨gB, 0, none⟩) (N.length + 1) cB) (N ++ [nm]) := by
  obtain ⟨gA, cA, XA, r1, o1, k1⟩ := app1 (hn.step hB) hl hrow hB.size
  have hBA := hB.grown k1 hB.size (fun j hj => by cases hj; exact (hrow.lt g rfl).1)
  have o1' := o1.alloc (.cells #[.string nm] 9)
  have hBA' := hBA.alloc hBA.size (.cells #[.string nm] 9)
  obtain ⟨gB, cB, XB, r2, o2, k2⟩ := app2 o1' (cell_new' XA #[.string nm] 9 _ rfl 0) hl hBA'.size
  have hBB := hBA'.grown k2 hBA'.size (fun j hj => by cases hj; exact (o1.lt gA rfl).1)
  refine ⟨gA, cA, XA, gB, cB, XB, r1, r2, hBA, hBB, ?_⟩
  have e : (N ++ [nm]).length = N.length + 1 := by simp
  rw [← e] at o2 ⊢
  exact names_of_row (base := w5.heap.size) (by simp; omega) (by rw [List.map_append]; exact o2)
/-- The winner with one name more. -/
theorem rwN_more (L : List Scn) (N : List ByteArray) (s d a : ByteArray) : ∀ m, m ≤ N.length → rwN L (N ++ [s]) d a m = rwN L N d a m
  | 0, _ => rfl
  | m + 1, hm => by
    have e : nameAt (N ++ [s]) m = nameAt N m := by
      unfold nameAt
      simp only [List.getD_eq_getElem?_getD]
      rw [List.getElem?_append_left (by omega)]
    unfold rwN
    rw [rwN_more L N s d a m (by omega), e]
theorem rW_more {L : List Scn} {N : List ByteArray} {s d a : ByteArray} {k : Nat} (hkn : kn L N = true) (hk : fI L s = some k) :
    kn L (N ++ [s]) = true ∧ rW L (N ++ [s]) d a = if (lI (stN L k) d a).isSome && (decide (rW L N d a < 0) || decide (lyr L (rW L N d a).toNat ≤ lyr L k)) then (k : Int) else rW L N d a := by
  have h1 : kn L (N ++ [s]) = true := by
    unfold kn at hkn ⊢
    rw [List.all_append, hkn]
    simp [hk]
  have e : nameAt (N ++ [s]) N.length = s := by
    unfold nameAt
    simp [List.getD_eq_getElem?_getD]
  have ei : ixOf L s = k := by unfold ixOf; rw [hk]; rfl
  refine ⟨h1, ?_⟩
  have h2 : rW L (N ++ [s]) d a = rwN L (N ++ [s]) d a (N.length + 1) := by unfold rW; rw [h1]; simp
  have h3 : rW L N d a = rwN L N d a N.length := by unfold rW; rw [hkn]; rfl
  rw [h2, h3]
  show (if _ then _ else _) = _
  rw [rwN_more L N s d a N.length (Nat.le_refl _), e, ei]
end Go.Proofs.Ytloilkfloidnjaa
