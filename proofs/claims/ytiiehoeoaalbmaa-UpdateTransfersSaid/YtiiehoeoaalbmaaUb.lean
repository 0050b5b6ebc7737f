/- Updates: rows of lists are copied; slots. -/
import Derived.Test.YtiiehoeoaalbmaaUa
import Derived.Deep.CutRange
namespace Go.Proofs.Ytiiehoeoaalbmaa
open Go.RowKit

theorem rows_nil (w : World) : RowsAt w (.slice none 0 0) [] := ⟨none, 0, rfl, by simp, fun h => absurd rfl h⟩
/-- The type of a block's cells. -/
def tyB (w : World) (b : Nat) : Option TypeId := (w.heap[b]?).bind fun o => match o with
  | .cells _ t _ => some t
  | _ => none
theorem tyB_step {w w' : World} {b : Nat} {t : TypeId} (h : tyB w b = some t) (hb : Below w.heap.size w w') : tyB w' b = some t := by
  unfold tyB at h ⊢
  cases hq : w.heap[b]? with
  | none => rw [hq] at h; cases h
  | some o => rw [(hb.block b (Array.getElem?_eq_some_iff.1 hq).1).trans hq]; rw [hq] at h; exact h
theorem tyB_set (w : World) (a : Addr) (v : Value) (b : Nat) : tyB (w.setCell a v) b = tyB w b := by
  unfold tyB World.setCell
  simp only [Array.getElem?_modify]
  by_cases e : a.block = b
  · rw [if_pos e]
    cases hq : w.heap[b]? with
    | none => rfl
    | some o => cases o <;> rfl
  · rw [if_neg e]
/-- A row of lists of one's own: its block lies from 'n2' on, the lists' blocks below 'n1' or from 'n2' on. -/
def OwR (n1 n2 : Nat) (L : List (List Int)) (lv : Value) (w : World) : Prop :=
  ∃ a c, lv = .slice a L.length c ∧ L.length ≤ maxLen ∧ (L ≠ [] → ∃ g, a = some ⟨g, 0, none⟩ ∧ n2 ≤ g ∧ g < w.heap.size ∧ ∀ i, i < L.length → w.frozen? ⟨g, i, none⟩ = false ∧ ∃ u, w.cell? ⟨g, i, none⟩ = some u ∧ IntsAt w u (L.getD i []) ∧
    (L.getD i [] ≠ [] → ∀ b off n c, u = .slice (some ⟨b, off, none⟩) n c → (b < n1 ∨ n2 ≤ b ∧ tyB w b = some 3) ∧ b ≠ g) ∧ tyB w g = some 22)
theorem OwR.step {n1 n2 : Nat} {L : List (List Int)} {lv : Value} {w w' : World} (h : OwR n1 n2 L lv w) (hb : Below w.heap.size w w') : OwR n1 n2 L lv w' := by
  obtain ⟨a, c, e, hm, h⟩ := h
  refine ⟨a, c, e, hm, fun hl => ?_⟩
  obtain ⟨g, e1, h2, h3, h4⟩ := h hl
  refine ⟨g, e1, h2, Nat.lt_of_lt_of_le h3 hb.size, fun i hi => ?_⟩
  obtain ⟨f, u, hu, hi2, ha⟩ := h4 i hi
  exact ⟨(hb.frozen (p := ⟨g, i, none⟩) h3).trans f, u, keep1 hb hu, hi2.step hb, fun q b off n c e => ⟨(ha.1 q b off n c e).1.imp id fun h => ⟨h.1, tyB_step h.2 hb⟩, (ha.1 q b off n c e).2⟩, tyB_step ha.2 hb⟩
theorem OwR.rows {n1 n2 : Nat} {L : List (List Int)} {lv : Value} {w : World} (h : OwR n1 n2 L lv w) : RowsAt w lv L := by
  obtain ⟨a, c, e, hm, h⟩ := h
  refine ⟨a, c, e, hm, fun hl => ?_⟩
  obtain ⟨g, e1, h2, h3, h4⟩ := h hl
  refine ⟨g, 0, e1, fun i x hi => ?_⟩
  have hlt := (List.getElem?_eq_some_iff.1 hi).1
  obtain ⟨f, u, hu, hi2, ha⟩ := h4 i hlt
  rw [Nat.zero_add]
  rw [rows_get hlt] at hi
  cases hi
  exact ⟨u, hu, hi2⟩
theorem OwR.set {n1 n2 B : Nat} {L : List (List Int)} {lv : Value} {w : World} (h : OwR n1 n2 L lv w) (h1 : n1 ≤ B) (h2 : B < n2) (j : Nat) (x : Value) : OwR n1 n2 L lv (w.setCell ⟨B, j, none⟩ x) := by
  obtain ⟨a, c, e, hm, h⟩ := h
  refine ⟨a, c, e, hm, fun hl => ?_⟩
  obtain ⟨g, e1, g2, g3, g4⟩ := h hl
  refine ⟨g, e1, g2, by simpa using g3, fun i hi => ?_⟩
  obtain ⟨f, u, hu, hi2, ha⟩ := g4 i hi
  have hne : (⟨g, i, none⟩ : Addr).block ≠ B := by show g ≠ B; omega
  refine ⟨(World.frozen?_of_block (a := ⟨g, i, none⟩) (Below.heap_setCell w ⟨B, j, none⟩ x g hne)).trans f, u, (World.cell?_of_block (a := ⟨g, i, none⟩) (Below.heap_setCell w ⟨B, j, none⟩ x g hne)).trans hu, ints_away hi2 (fun hx b off n c e => by
    have h9 := (ha.1 hx b off n c e).1; rcases h9 with h9 | ⟨h9, -⟩ <;> omega) _ _, fun q b off n c e => by rw [tyB_set]; exact ha.1 q b off n c e, by rw [tyB_set]; exact ha.2⟩
theorem OwR.put {n1 n2 g k c : Nat} {L : List (List Int)} {w : World} {u : Value} {x : List Int} (h : OwR n1 n2 L (.slice (some ⟨g, 0, none⟩) L.length c) w) (hk : k < L.length) (hu : IntsAt w u x) (ha : x ≠ [] → ∀ b off n c, u = .slice (some ⟨b, off, none⟩) n c → (b < n1 ∨ n2 ≤ b ∧ tyB w b = some 3) ∧ b ≠ g) :
    OwR n1 n2 (L.set k x) (.slice (some ⟨g, 0, none⟩) L.length c) (w.setCell ⟨g, k, none⟩ u) := by
  obtain ⟨a, c', e, hm, h⟩ := h
  obtain ⟨rfl, rfl⟩ : some (⟨g, 0, none⟩ : Addr) = a ∧ c = c' := by simpa using e
  obtain ⟨g', e1, g2, g3, g4⟩ := h (by intro e; rw [e] at hk; simp at hk)
  obtain rfl : g = g' := by simpa using e1
  refine ⟨some ⟨g, 0, none⟩, c, by rw [List.length_set], by rw [List.length_set]; exact hm, fun _ => ⟨g, rfl, g2, by simpa using g3, fun i hi => ?_⟩⟩
  rw [List.length_set] at hi
  obtain ⟨f, v, hv, hi2, ha2⟩ := g4 i hi
  have hf : (w.setCell ⟨g, k, none⟩ u).frozen? ⟨g, i, none⟩ = false := by rw [World.frozen?_setCell]; exact f
  by_cases e : k = i
  · subst e
    refine ⟨hf, u, by rw [World.cell?_setCell_same _ _ _ hv], ?_, ?_, by rw [tyB_set]; exact ha2.2⟩
    · rw [List.getD_eq_getElem?_getD, List.getElem?_set_self hk]
      exact ints_away hu (fun hx b off n c e => (ha hx b off n c e).2) _ _
    · rw [List.getD_eq_getElem?_getD, List.getElem?_set_self hk]
      exact fun q b off n c e => by rw [tyB_set]; exact ha q b off n c e
  · have hg : (L.set k x).getD i [] = L.getD i [] := by rw [List.getD_eq_getElem?_getD, List.getElem?_set_ne e, ← List.getD_eq_getElem?_getD]
    rw [hg]
    exact ⟨hf, v, by rw [World.cell?_setCell_other _ _ _ _ (by intro h2; injection h2 with _ h3; exact e h3), hv], ints_away hi2 (fun hx b off n c e => (ha2.1 hx b off n c e).2) _ _, fun q b off n c e => by rw [tyB_set]; exact ha2.1 q b off n c e, by rw [tyB_set]; exact ha2.2⟩
theorem set_self {L : List (List Int)} {k : Nat} (_ : k < L.length) : L.set k (L.getD k []) = L := by
  apply List.ext_getElem?
  intro i
  by_cases e : k = i
  · subst e
    by_cases h2 : k < L.length
    · rw [List.getElem?_set_self h2, rows_get h2]
    · omega
  · rw [List.getElem?_set_ne e]
/-- The cells of a row of lists. -/
theorem rows_cells {w : World} {ad : Addr} {cap : Nat} {L : List (List Int)} (h : RowsAt w (.slice (some ad) L.length cap) L) : ∃ xs : List Value, xs.length = L.length ∧ ∀ j u, xs[j]? = some u → w.cell? (ad.add j) = some u ∧ u.oneCell' = true ∧ IntsAt w u (L.getD j []) := by
  obtain ⟨a, c, e, hm, h⟩ := h
  obtain ⟨rfl, rfl⟩ : some ad = a ∧ cap = c := by simpa using e
  by_cases hL : L = []
  · subst hL; exact ⟨[], rfl, fun j u hj => by simp at hj⟩
  · obtain ⟨b, off, e1, hx⟩ := h hL
    obtain rfl : ad = ⟨b, off, none⟩ := by simpa using e1
    refine ⟨(List.range L.length).map fun i => (w.cell? ⟨b, off + i, none⟩).getD undef, by simp, fun j u hj => ?_⟩
    have hlt : j < L.length := by have := (List.getElem?_eq_some_iff.1 hj).1; simpa using this
    obtain ⟨y, h1, h2⟩ := hx j _ (rows_get hlt)
    have hy : u = y := by
      rw [List.getElem?_map, List.getElem?_range hlt] at hj
      simp only [Option.map_some, h1, Option.getD_some, Option.some.injEq] at hj
      exact hj.symm
    subst hy
    refine ⟨by rw [Go.WideShapes.add_plain]; exact h1, ?_, h2⟩
    obtain ⟨a2, c2, e2, -⟩ := h2
    rw [e2]; rfl
theorem OwR.of_row {n1 n2 : Nat} {L : List (List Int)} {lv : Value} {xs : List Value} {w : World} (h : w.ownsRow n2 22 1 lv L.length xs) (hx : ∀ (j : Nat) (u : Value), xs[j]? = some u → IntsAt w u (L.getD j [])) (ha : ∀ (j : Nat) (u : Value), xs[j]? = some u → L.getD j [] ≠ [] → ∀ b off n c, u = .slice (some ⟨b, off, none⟩) n c → b < n1 ∧ b < n2) : OwR n1 n2 L lv w := by
  have hl : xs.length = L.length := by rw [h.1, Nat.mul_one]
  rcases h.2 with ⟨rfl, e⟩ | ⟨g, cap, cur, rfl, h1, h2, h3, h4, h5, h6⟩
  · obtain rfl : L = [] := List.length_eq_zero_iff.1 e
    exact ⟨none, 0, rfl, by simp, fun q => absurd rfl q⟩
  · refine ⟨_, cap, rfl, by omega, fun _ => ⟨g, rfl, h1, (Array.getElem?_eq_some_iff.1 h2).1, fun i hi => ?_⟩⟩
    have hi2 : i < xs.length := by omega
    have hc := h.cells (g := g) rfl i _ (List.getElem?_eq_getElem hi2)
    rw [Go.WideShapes.add_plain, Nat.zero_add] at hc
    refine ⟨by simp [World.frozen?, h2], _, hc, hx i _ (List.getElem?_eq_getElem hi2), fun hq b off n c e => ?_, by unfold tyB; rw [h2]; rfl⟩
    have := ha i _ (List.getElem?_eq_getElem hi2) hq b off n c e
    exact ⟨.inl this.1, by omega⟩
set_option maxRecDepth 100000 in
set_option maxHeartbeats 4000000 in
theorem rclone_any (v : Value) (L : List (List Int)) (w0 w : World) (hb0 : Below w0.heap.size w0 w) (h : RowsAt w0 v L) (h9 : L.length ≤ 100000) :
    Calls Try.prog 69 #[v] w fun e w' => ∃ u, e = .returned u ∧ OwR w0.heap.size w.heap.size L u w' ∧ Below w.heap.size w w' := by
  have H := Lib.hid h
  have HB0 := Lib.hid hb0
  obtain ⟨a, cap, rfl, hm, hc⟩ := h
  obtain ⟨i0, hi, hz0, hz1, hz2⟩ := info_parts infoSl
  have q25 : ∀ (w : World) (a : Option Addr) (n c n' c' : Nat), (binOp .eql 25 (.slice a n c) (.slice none n' c')).run Try.prog w = .ok (.bool a.isNone) w := fun w a n c n' c' => Lib.run_eql_slice_nil w _ _ a n c n' c' Try.underlying25
  cases a with
  | none =>
    have hl : L = [] := by
      cases L with
      | nil => rfl
      | cons x L => obtain ⟨b, off, e, -⟩ := hc (by simp); cases e
    subst hl
    clear H hc hm h9 HB0 hb0
    go_enter Try.func69, Try.ntmps69
    go_wp2
    go_ret
    exact ⟨_, rfl, ⟨none, 0, rfl, by simp, fun q => absurd rfl q⟩, Below.refl _ _⟩
  | some ad =>
    obtain ⟨xs, hxl, hxs⟩ := rows_cells H.out
    have HXS := Lib.hid hxs
    have HLW := Lib.hid (fun (j : Nat) (u : Value) (hj : xs[j]? = some u) (hq : L.getD j [] ≠ []) (b off n c : Nat) (e : u = .slice (some ⟨b, off, none⟩) n c) => ints_low (hxs j u hj).2.2 hq b off n c e)
    have HN := Lib.hid (show ∀ j u, xs[j]? = some u → (w.alloc (.cells #[] 22)).cell? (ad.add j) = some u from fun j u hj => keep1 (HB0.out.trans ((al w (.cells #[] 22)).mono HB0.out.size)) (hxs j u hj).1)
    have H1 := Lib.hid (show ∀ u ∈ xs, u.oneCell' = true from fun u hu => by
      obtain ⟨j, hj, rfl⟩ := List.getElem_of_mem hu
      exact (hxs j _ (List.getElem?_eq_getElem hj)).2.1)
    have HXL := Lib.hid hxl
    have c1 : 0 + L.length ≤ maxLen := by unfold maxLen; omega
    have c2 : (0 + L.length) * 24 ≤ 140737488355328 := by omega
    have HR := Lib.hid (show (w.alloc (.cells #[] 22)).ownsRow w.heap.size 22 1 (.slice (some ⟨w.heap.size, 0, none⟩) 0 0) 0 [] from
      ⟨rfl, .inr ⟨w.heap.size, 0, _, rfl, Nat.le_refl _, heap_alloc_new _ _, by omega, by unfold maxLen; omega, rfl, rfl⟩⟩)
    clear hc hm hxs hxl hb0
    go_enter Try.func69, Try.ntmps69
    go_wp2_with (at_builtin; refine wpList_append_own _ rfl _ _ 25 rfl w.heap.size 22 i0 _ 1 24 Try.underlying25 hi hz0 hz1 hz2 rfl (by decide) _ _ _ rfl HR.out ad L.length cap xs rfl (by rw [HXL.out, Nat.mul_one]) HN.out H1.out c1 c2 (by simp) ?_; intro v' w1 hown hgrow _; have HO := Lib.hid hown; have HG := Lib.hid hgrow; clear hown hgrow)
    have HB := Lib.hid ((al w (.cells #[] 22)).grown HG.out (by simp) (fun k e => by cases e; exact Nat.le_refl _))
    have HO2 := Lib.hid (show w1.ownsRow w.heap.size 22 1 v' L.length xs by have := HO.out; rw [Nat.zero_add, List.nil_append] at this; exact this)
    clear HO
    go_wp2
    go_ret
    refine ⟨_, rfl, OwR.of_row HO2.out (fun j u hj => ((HXS.out j u hj).2.2.step (HB0.out.trans (HB.out.mono HB0.out.size)))) (fun j u hj hq b off n c e => ?_), HB.out⟩
    have := HLW.out j u hj hq b off n c e
    exact ⟨this, Nat.lt_of_lt_of_le this HB0.out.size⟩
end Go.Proofs.Ytiiehoeoaalbmaa
