/- Rows of scenes and of names. -/
import Derived.Test.YtloilkfloidnjaaZq
import Derived.Laws.OwnMore
import Derived.Maps.AppendAt
namespace Go.Proofs.Ytloilkfloidnjaa
open Go.RowKit Go.WideMaps

/-- An append of a slice that may be nil, as an equation. -/
theorem run_app_gen {t ty e : TypeId} {i : TypeInfo} {z : Value} {size bytes : Nat} (ht : Try.prog.underlying t = some (.slice e)) (hi : Try.prog.info? e = some i) (hz : i.zero = some z) (hsize : i.size = size) (hby : i.bytes = bytes) (hzs : z.cells.size = size) (hsz : 0 < size)
    (w : World) (base n : Nat) (v : Value) (xs : List Value) (hown : w.ownsRow base e size v n xs) (a : Option Addr) (m cap : Nat) (news : List Value) (hl : news.length = m * size) (hc : ∀ ad, a = some ad → ∀ j u, news[j]? = some u → w.cell? (ad.add j) = some u) (hn : a = none → m = 0)
    (h1 : ∀ u ∈ news, u.oneCell' = true) (h63 : n + m ≤ maxLen) (hbytes : (n + m) * bytes ≤ 140737488355328) (hbase : base ≤ w.heap.size) :
    ∃ v' w', (Builtin.append_ #[t, t] ty #[v, .slice a m cap]).run Try.prog w = .ok v' w' ∧ w'.ownsRow base e size v' (n + m) (xs ++ news) ∧ w.grownBy w' v.ownBlock := by
  cases a with
  | none =>
    have hm := hn rfl
    subst hm
    have hnil : news = [] := by simpa using hl
    subst hnil
    have hg : w.grownBy w v.ownBlock := ⟨rfl, rfl, rfl, Nat.le_refl _, fun _ _ _ => rfl⟩
    refine ⟨v, w, ?_, by simpa using hown, hg⟩
    rcases hown.2 with ⟨rfl, rfl⟩ | ⟨g, c, cur, rfl, _, _, hnc, _⟩
    · simp [Builtin.append_, run_underlying ht, sizeOf, typeInfo, hi, Builtin.lenOf, Builtin.firstCells]
    · simp [Builtin.append_, run_underlying ht, sizeOf, typeInfo, hi, Builtin.lenOf, Builtin.firstCells, hnc, storeCells]
  | some ad =>
    obtain ⟨v', w', q1, q2, q3, -, -⟩ := run_append_own_at (P := Try.prog) w base t ty e i z size bytes ht hi hz hsize hby hzs hsz v n xs hown ad m cap news hl (hc ad rfl) h1 h63 hbytes hbase
    exact ⟨v', w', q1, q2, q3⟩
/-- The cells of scenes with their slices. -/
def scC (P : List (Scn × Value)) : List Value := P.flatMap fun p => [.string p.1.name, .int .i64 p.1.layer, p.2]
theorem scC_len (P : List (Scn × Value)) : (scC P).length = P.length * 3 := by
  unfold scC
  induction P with
  | nil => rfl
  | cons p P ih => simp only [List.flatMap_cons, List.length_append, List.length_cons, List.length_nil, ih]; omega
theorem scC_app (P Q : List (Scn × Value)) : scC (P ++ Q) = scC P ++ scC Q := by simp [scC]
theorem scC_get (P : List (Scn × Value)) : ∀ (i : Nat) (p : Scn × Value), P[i]? = some p → ∀ j, j < 3 → (scC P)[i * 3 + j]? = [Value.string p.1.name, .int .i64 p.1.layer, p.2][j]? := by
  induction P with
  | nil => intro i p h; simp at h
  | cons y P ih =>
    intro i p h j hj
    have e : scC (y :: P) = [Value.string y.1.name, .int .i64 y.1.layer, y.2] ++ scC P := by simp [scC]
    rw [e]
    cases i with
    | zero =>
      simp at h
      subst h
      rw [List.getElem?_append_left (by simp; omega)]
      simp
    | succ i =>
      simp at h
      rw [List.getElem?_append_right (by simp; omega)]
      have := ih i p h j hj
      rw [← this]
      congr 1
      simp; omega
/-- Scenes with their slices behind a slice. -/
def PAt (w : World) (v : Value) (P : List (Scn × Value)) : Prop := ∃ a cap, v = .slice a P.length cap ∧ P.length ≤ maxLen ∧ (∀ ad, a = some ad → ∀ j u, (scC P)[j]? = some u → w.cell? (ad.add j) = some u) ∧ (a = none → P.length = 0)
def PS (w : World) (P : List (Scn × Value)) : Prop := ∀ p ∈ P, SettsAt w p.2 p.1.sets
theorem PS.step {w w1 : World} {P : List (Scn × Value)} (h : PS w P) (hb : Below w.heap.size w w1) : PS w1 P := fun p hp => (h p hp).step hb
theorem PS.one {w : World} {P : List (Scn × Value)} (h : PS w P) : ∀ u ∈ scC P, u.oneCell' = true := fun u hu => by
  obtain ⟨p, hp, hq⟩ := List.mem_flatMap.1 hu
  obtain ⟨a, c, e, -⟩ := h p hp
  simp only [List.mem_cons, List.not_mem_nil, or_false] at hq
  rcases hq with rfl | rfl | rfl
  · rfl
  · rfl
  · rw [e]; rfl
theorem PAt.step {w w1 : World} {v : Value} {P : List (Scn × Value)} (h : PAt w v P) (hb : Below w.heap.size w w1) : PAt w1 v P := by
  obtain ⟨a, cap, h1, h2, h3, h4⟩ := h
  exact ⟨a, cap, h1, h2, fun ad ha j u hu => keep1 hb (h3 ad ha j u hu), h4⟩
theorem scns_pairs {w : World} {v : Value} {L : List Scn} (h : ScnsAt w v L) : ∃ P : List (Scn × Value), P.map Prod.fst = L ∧ PAt w v P ∧ PS w P := by
  obtain ⟨a, cap, rfl, hm, hc⟩ := h
  by_cases hl : L = []
  · subst hl
    refine ⟨[], rfl, ⟨a, cap, rfl, by simp, fun ad _ j u hu => by simp [scC] at hu, fun _ => rfl⟩, fun p hp => by cases hp⟩
  · obtain ⟨b, off, rfl, hx⟩ := hc hl
    obtain ⟨f, hf⟩ := Go.Deep.choose_lt (α := Value) (p := fun i sv => w.cell? ⟨b, off + i * 3 + 2, none⟩ = some sv ∧ SettsAt w sv (L.getD i zN).sets) (n := L.length) (fun i hi => by
      obtain ⟨-, -, sv, h2, h3⟩ := hx i _ (scn_get hi)
      exact ⟨sv, h2, h3⟩)
    have hP : ((List.range L.length).map fun i => (L.getD i zN, f i)).map Prod.fst = L := by
      rw [List.map_map]
      refine List.ext_getElem (by simp) fun i h1 h2 => ?_
      simp [List.getD_eq_getElem?_getD, show i < L.length from h2]
    refine ⟨(List.range L.length).map fun i => (L.getD i zN, f i), hP, ⟨some ⟨b, off, none⟩, cap, by simp, by simp; exact hm, fun ad ha j u hu => ?_, fun h => by cases h⟩, fun p hp => ?_⟩
    · cases ha
      have hj := (List.getElem?_eq_some_iff.1 hu).1
      rw [scC_len] at hj
      simp only [List.length_map, List.length_range] at hj
      have hi : j / 3 < L.length := by omega
      have hg := scC_get ((List.range L.length).map fun i => (L.getD i zN, f i)) (j / 3) (L.getD (j / 3) zN, f (j / 3)) (by simp [hi]) (j % 3) (Nat.mod_lt _ (by omega))
      rw [show j / 3 * 3 + j % 3 = j by omega, hu] at hg
      obtain ⟨y0, y1, -⟩ := hx (j / 3) _ (scn_get hi)
      have y2 := (hf (j / 3) hi).1
      rw [Go.WideShapes.add_plain]
      rcases h3 : j % 3 with _ | _ | _ | r
      · rw [h3] at hg
        rw [show off + j = off + j / 3 * 3 by omega, y0]; exact hg.symm
      · rw [h3] at hg
        rw [show off + j = off + j / 3 * 3 + 1 by omega, y1]; exact hg.symm
      · rw [h3] at hg
        rw [show off + j = off + j / 3 * 3 + 2 by omega, y2]; exact hg.symm
      · omega
    · obtain ⟨i, hi, rfl⟩ := List.mem_map.1 hp
      exact (hf i (List.mem_range.1 hi)).2
theorem scns_of_row {w : World} {base : Nat} {v : Value} {P : List (Scn × Value)} (h : w.ownsRow base 44 3 v P.length (scC P)) (hs : PS w P) (hl : P.length ≤ maxLen) : ScnsAt w v (P.map Prod.fst) := by
  rcases h.2 with ⟨rfl, h0⟩ | ⟨g, cap, cur, rfl, -⟩
  · have : P = [] := by simpa using h0
    subst this
    exact ⟨none, 0, rfl, by simp, fun h => absurd rfl h⟩
  · refine ⟨_, cap, by simp, by simp; exact hl, fun _ => ⟨g, 0, rfl, fun i x hi => ?_⟩⟩
    rw [List.getElem?_map] at hi
    cases hp : P[i]? with
    | none => rw [hp] at hi; cases hi
    | some p =>
      rw [hp] at hi
      simp only [Option.map_some, Option.some.injEq] at hi
      subst hi
      have hlt := (List.getElem?_eq_some_iff.1 hp).1
      have hc := fun j (hj : j < 3) => (h.cellAt (i * 3 + j) (by omega)).trans (scC_get P i p hp j hj)
      rw [Nat.zero_add]
      exact ⟨hc 0 (by omega), hc 1 (by omega), p.2, hc 2 (by omega), hs p (List.mem_of_getElem? hp)⟩
theorem info44 : (Try.prog.info? 44).map (fun i => (i.zero, i.size, i.bytes)) = some (some (.agg #[.string ⟨#[]⟩, .int .i64 0, .slice none 0 0]), 3, 48) := by kernel_rfl
theorem info9 : (Try.prog.info? 9).map (fun i => (i.zero, i.size, i.bytes)) = some (some (.string ⟨#[]⟩), 1, 16) := by kernel_rfl
theorem names_cells {w : World} {v : Value} {L : List ByteArray} (h : NamesAt w v L) : ∃ a cap, v = .slice a L.length cap ∧ (∀ ad, a = some ad → ∀ j u, (L.map Value.string)[j]? = some u → w.cell? (ad.add j) = some u) ∧ (a = none → L.length = 0) := by
  obtain ⟨a, cap, rfl, hm, hc⟩ := h
  by_cases hl : L = []
  · subst hl; exact ⟨a, cap, rfl, fun ad _ j u hu => by simp at hu, fun _ => rfl⟩
  · obtain ⟨b, off, rfl, hx⟩ := hc hl
    refine ⟨_, cap, rfl, fun ad ha j u hu => ?_, fun h => by cases h⟩
    cases ha
    rw [List.getElem?_map] at hu
    cases hp : L[j]? with
    | none => rw [hp] at hu; cases hu
    | some x =>
      rw [hp] at hu
      simp only [Option.map_some, Option.some.injEq] at hu
      subst hu
      rw [Go.WideShapes.add_plain]
      exact hx j x hp
theorem names_of_row {w : World} {base : Nat} {v : Value} {L : List ByteArray} (h : w.ownsRow base 9 1 v L.length (L.map Value.string)) (hl : L.length ≤ maxLen) : NamesAt w v L := by
  rcases h.2 with ⟨rfl, h0⟩ | ⟨g, cap, cur, rfl, -⟩
  · have : L = [] := by simpa using h0
    subst this
    exact ⟨none, 0, rfl, by simp, fun h => absurd rfl h⟩
  · refine ⟨_, cap, rfl, hl, fun _ => ⟨g, 0, rfl, fun i x hi => ?_⟩⟩
    have hlt := (List.getElem?_eq_some_iff.1 hi).1
    rw [Nat.zero_add, h.cellAt i (by omega), List.getElem?_map, hi]; rfl
end Go.Proofs.Ytloilkfloidnjaa
