/- Leases: lists of voters and of answers. -/
import Derived.Test.YtifnhfpdcbpjlaaLb
namespace Go.Proofs.Ytifnhfpdcbpjlaa
open Go.RowKit

/-- A voter. -/
structure Vo where
  f : Int
  h : Int
  u : Int
def zV : Vo := ⟨0, 0, 0⟩
instance : Inhabited Vo := ⟨zV⟩
/-- A list of voters, and one of answers, behind a slice. -/
def VosAt (w : World) (v : Value) (l : List Vo) : Prop :=
  ∃ a cap, v = .slice a l.length cap ∧ l.length ≤ maxLen ∧ (l ≠ [] → ∃ b off, a = some ⟨b, off, none⟩ ∧ ∀ (i : Nat) (x : Vo), l[i]? = some x →
    w.cell? ⟨b, off + i * 3, none⟩ = some (.int .i64 x.f) ∧ w.cell? ⟨b, off + i * 3 + 1, none⟩ = some (.int .i64 x.h) ∧ w.cell? ⟨b, off + i * 3 + 2, none⟩ = some (.int .i64 x.u))
def BosAt (w : World) (v : Value) (l : List Bool) : Prop :=
  ∃ a cap, v = .slice a l.length cap ∧ l.length ≤ maxLen ∧ (l ≠ [] → ∃ b off, a = some ⟨b, off, none⟩ ∧ ∀ (i : Nat) (x : Bool), l[i]? = some x → w.cell? ⟨b, off + i, none⟩ = some (.bool x))
theorem VosAt.step {w w1 : World} {v : Value} {l : List Vo} (h : VosAt w v l) (hb : Below w.heap.size w w1) : VosAt w1 v l := by
  obtain ⟨a, cap, hv, hm, hc⟩ := h
  refine ⟨a, cap, hv, hm, fun hl => ?_⟩
  obtain ⟨b, off, ha, hx⟩ := hc hl
  exact ⟨b, off, ha, fun i x h => ⟨keep1 hb (hx i x h).1, keep1 hb (hx i x h).2.1, keep1 hb (hx i x h).2.2⟩⟩
theorem BosAt.step {w w1 : World} {v : Value} {l : List Bool} (h : BosAt w v l) (hb : Below w.heap.size w w1) : BosAt w1 v l := by
  obtain ⟨a, cap, hv, hm, hc⟩ := h
  refine ⟨a, cap, hv, hm, fun hl => ?_⟩
  obtain ⟨b, off, ha, hx⟩ := hc hl
  exact ⟨b, off, ha, fun i x h => keep1 hb (hx i x h)⟩
theorem vos_nil (w : World) : VosAt w (.slice none 0 0) [] := ⟨none, 0, rfl, by simp, fun h => absurd rfl h⟩
theorem bos_nil (w : World) : BosAt w (.slice none 0 0) [] := ⟨none, 0, rfl, by simp, fun h => absurd rfl h⟩
theorem vo_get {l : List Vo} {k : Nat} (h : k < l.length) : l[k]? = some (l.getD k zV) := by simp [h]
theorem bo_get {l : List Bool} {k : Nat} (h : k < l.length) : l[k]? = some (l.getD k false) := by simp [h]
/-- The cells of a list of voters. -/
def Vo.cells (x : Vo) : List Value := [.int .i64 x.f, .int .i64 x.h, .int .i64 x.u]
def vcs (l : List Vo) : List Value := l.flatMap Vo.cells
theorem vcs_app (l m : List Vo) : vcs (l ++ m) = vcs l ++ vcs m := by simp [vcs]
theorem vcs_one (x : Vo) : vcs [x] = [.int .i64 x.f, .int .i64 x.h, .int .i64 x.u] := by simp [vcs, Vo.cells]
theorem vcs_get (l : List Vo) : ∀ (i : Nat) (x : Vo), l[i]? = some x → ∀ j, j < 3 → (vcs l)[i * 3 + j]? = x.cells[j]? := by
  induction l with
  | nil => intro i x h; simp at h
  | cons y l ih =>
    intro i x h j hj
    have hs : vcs (y :: l) = y.cells ++ vcs l := by simp [vcs]
    rw [hs]
    cases i with
    | zero =>
      simp at h; subst h
      rw [List.getElem?_append_left (by simp [Vo.cells]; omega)]
      simp
    | succ i =>
      rw [List.getElem?_append_right (by simp [Vo.cells]; omega)]
      have := ih i x (by simpa using h) j hj
      rw [← this]
      congr 1
      simp [Vo.cells]; omega
theorem vos_of_row {w : World} {base n : Nat} {v : Value} {l : List Vo} (hn : n = l.length) (hl : l.length ≤ maxLen) (h : w.ownsRow base 32 3 v n (vcs l)) : VosAt w v l := by
  subst hn
  have hc := fun g (hg : v.ownBlock = some g) => h.cells hg
  rcases h.2 with ⟨rfl, h0⟩ | ⟨g, cap, cur, rfl, -⟩
  · have : l = [] := List.length_eq_zero_iff.1 h0
    subst this
    exact vos_nil _
  · refine ⟨some ⟨g, 0, none⟩, cap, rfl, hl, fun _ => ⟨g, 0, rfl, fun i x hi => ?_⟩⟩
    have hj := fun j (hj : j < 3) u (hu : x.cells[j]? = some u) => hc g rfl (i * 3 + j) u ((vcs_get l i x hi j hj).trans hu)
    simp only [Go.WideShapes.add_plain] at hj
    exact ⟨hj 0 (by omega) _ rfl, hj 1 (by omega) _ rfl, hj 2 (by omega) _ rfl⟩
theorem cell_three_new (W : World) (a b c : Value) (T : TypeId) (n : Nat) (hn : n = W.heap.size) : ∀ j u, [a, b, c][j]? = some u → (W.alloc (.cells #[a, b, c] T)).cell? ((⟨n, 0, none⟩ : Addr).add j) = some u := by
  subst hn
  intro j u hu
  rw [Go.WideShapes.add_plain, World.cell?_alloc_new]
  simpa using hu
theorem info25 : (Try.prog.info? 32).map (fun i => (i.zero, i.size, i.bytes)) = some (some (.agg #[.int .i64 0, .int .i64 0, .int .i64 0]), 3, 24) := by kernel_rfl

/-- The voters among the first k that answer. -/
def yesN (L : List Vo) (A : List Bool) : Nat → List Vo
  | 0 => []
  | k + 1 => yesN L A k ++ (if A.getD k false then [L.getD k zV] else [])
theorem yesN_len (L : List Vo) (A : List Bool) : ∀ k, (yesN L A k).length ≤ k
  | 0 => by simp [yesN]
  | k + 1 => by
    have := yesN_len L A k
    rw [yesN, List.length_append]
    split <;> simp <;> omega
theorem yesN_yes {L : List Vo} {A : List Bool} {k : Nat} (h : A.getD k false = true) : yesN L A (k + 1) = yesN L A k ++ [L.getD k zV] := by rw [yesN, h]; rfl
theorem yesN_no {L : List Vo} {A : List Bool} {k : Nat} (h : A.getD k false = false) : yesN L A (k + 1) = yesN L A k := by rw [yesN, h]; simp
set_option maxRecDepth 100000 in
set_option maxHeartbeats 4000000 in
theorem answering_any (v va : Value) (L : List Vo) (A : List Bool) (w : World) (hl : VosAt w v L) (ha : BosAt w va A) (hn : A.length = L.length) (h9 : L.length ≤ 1000) :
    Calls Try.prog 18 #[v, va] w fun e w' => ∃ u, e = .returned u ∧ VosAt w' u (yesN L A L.length) ∧ Below w.heap.size w w' := by
  have HL := Lib.hid hl
  have HA := Lib.hid ha
  obtain ⟨a, cap, rfl, -, -⟩ := hl
  obtain ⟨aa, capa, rfl, -, -⟩ := ha
  have HN := Lib.hid hn
  clear hn
  obtain ⟨i0, hi, hz0, hz1, hz2⟩ := info_parts info25
  go_enter Try.func18, Try.ntmps18
  go_wp2_with fail
  go_loopw [5, 10] (fun v i wr => ∃ k : Nat, k ≤ L.length ∧ i = .int .i64 k ∧ Hid (wr.ownsRow w.heap.size 32 3 v (yesN L A k).length (vcs (yesN L A k))) ∧ Hid (Below w.heap.size w wr)) (fun _ i _ => L.length - (intOf i).toNat)
  case atStart => exact ⟨0, by omega, rfl, World.ownsRow_nil _ _ _ _, Below.refl _ _⟩
  case round =>
    obtain ⟨k, hk, rfl, HR, HB⟩ := hrel
    have hsz := HB.out.size
    by_cases hlt : k < L.length
    · obtain ⟨a2, cap2, hva, -, hcs⟩ := HL.out.step HB.out
      obtain ⟨rfl, rfl⟩ : a = a2 ∧ cap = cap2 := by simpa using hva
      obtain ⟨b, off, rfl, hcs2⟩ := hcs (by intro h; rw [h] at hlt; simp at hlt)
      obtain ⟨a3, cap3, hvb, -, hct⟩ := HA.out.step HB.out
      obtain ⟨rfl, rfl⟩ : aa = a3 ∧ capa = cap3 := by simpa using hvb
      obtain ⟨b2, off2, rfl, hct2⟩ := hct (by intro h; have := HN.out; rw [h] at this; simp at this; omega)
      have hlta : k < A.length := by rw [HN.out]; exact hlt
      obtain ⟨x0, x1, x2⟩ := hcs2 k _ (vo_get hlt)
      have y0 := hct2 k _ (bo_get hlta)
      have HY := Lib.hid (yesN_len L A k)
      have z0 : off2 + k < off2 + A.length := by omega
      have yb := World.block_lt_of_cell? _ _ y0
      have yb : b2 < wr.heap.size := yb
      clear hcs hct hva hvb hcs2 hct2
      cases hA : A.getD k false
      · have HT := Lib.hid (yesN_no (L := L) hA)
        rw [hA] at y0
        clear hA
        have HB1 := Lib.hid (HB.out.alloc hsz (.cells #[.int .i64 (L.getD k zV).f, .int .i64 (L.getD k zV).h, .int .i64 (L.getD k zV).u] 32))
        have HR1 := Lib.hid (HR.out.alloc (.cells #[.int .i64 (L.getD k zV).f, .int .i64 (L.getD k zV).h, .int .i64 (L.getD k zV).u] 32))
        generalize L.getD k zV = x at *
        go_wp2
        go_roundw
        case rel => exact ⟨k + 1, by omega, by go_num, by rw [HT.out]; exact HR1, HB1⟩
        case measure => simp [intOf]; omega
      · have HT := Lib.hid (yesN_yes (L := L) hA)
        rw [hA] at y0
        clear hA
        have HB1 := Lib.hid (HB.out.alloc hsz (.cells #[.int .i64 (L.getD k zV).f, .int .i64 (L.getD k zV).h, .int .i64 (L.getD k zV).u] 32))
        have HR1 := Lib.hid (HR.out.alloc (.cells #[.int .i64 (L.getD k zV).f, .int .i64 (L.getD k zV).h, .int .i64 (L.getD k zV).u] 32))
        generalize L.getD k zV = x at *
        have HY2 := HY.out
        go_wp2_with (at_builtin; refine wpList_append_own _ rfl _ _ 37 rfl w.heap.size 32 i0 _ 3 24 Try.underlying37 hi hz0 hz1 hz2 rfl (by decide) _ _ _ rfl (HR1.out.alloc _) ⟨wr.heap.size + 1, 0, none⟩ 1 1 [.int .i64 x.f, .int .i64 x.h, .int .i64 x.u] rfl rfl (cell_three_new _ _ _ _ _ _ (by simp)) (by simp [Value.oneCell']) (by unfold maxLen; omega) (by omega) (by simp; omega) ?_; intro v' w1 hown hgrow _; have HR2 := Lib.hid hown; have HB2 := Lib.hid (below_own (Nat.le_refl _) HB1.out HR1.out hgrow); clear hown hgrow)
        go_roundw
        case rel => exact ⟨k + 1, by omega, by go_num, by rw [HT.out, vcs_app, vcs_one, List.length_append]; exact HR2, HB2⟩
        case measure => simp [intOf]; omega
    · obtain rfl : k = L.length := by omega
      have HQ := Lib.hid (vos_of_row rfl (by have := yesN_len L A L.length; unfold maxLen; omega) HR.out)
      go_wp2
      go_ret
      exact ⟨_, rfl, HQ.out, HB.out⟩
end Go.Proofs.Ytifnhfpdcbpjlaa
