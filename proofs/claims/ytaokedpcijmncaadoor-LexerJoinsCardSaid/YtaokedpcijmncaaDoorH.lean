/- Lists of tokens in memory; the contracts of 'Same' and 'Alike'. -/
import Derived.Test.YtaokedpcijmncaaDoorG
import Derived.Deep.QuietTactic
import Derived.BigQuiet
namespace Go.Proofs.YtaokedpcijmncaaDoor
open Go.RowKit Go.Maps

/-- A slice value holds tokens, in a block below B. -/
def ToksAt (B : Nat) (W : World) (v : Value) (l : List Item) : Prop :=
  ∃ a cap, v = .slice a l.length cap ∧ (l ≠ [] → ∃ g, g < B ∧ a = some ⟨g, 0, none⟩ ∧ ∀ (i : Nat) (x : Item), l[i]? = some x →
    W.cell? ⟨g, i * 4, none⟩ = some (.int .i64 x.k) ∧ W.cell? ⟨g, i * 4 + 1, none⟩ = some (.string x.t) ∧ W.cell? ⟨g, i * 4 + 2, none⟩ = some (.int .i64 x.v) ∧ W.cell? ⟨g, i * 4 + 3, none⟩ = some (.int .i64 x.at_))
theorem ToksAt.below {B B' : Nat} {W W' : World} {v : Value} {l : List Item} (h : ToksAt B W v l) (hb : Below B' W W') (hB : B ≤ B') : ToksAt B W' v l := by
  obtain ⟨a, cap, rfl, hc⟩ := h
  refine ⟨a, cap, rfl, fun hl => ?_⟩
  obtain ⟨g, hg, ha, hcs⟩ := hc hl
  refine ⟨g, hg, ha, fun i x hx => ?_⟩
  obtain ⟨h0, h1, h2, h3⟩ := hcs i x hx
  have hlt : g < B' := by omega
  exact ⟨(hb.cell (p := ⟨g, _, none⟩) hlt).trans h0, (hb.cell (p := ⟨g, _, none⟩) hlt).trans h1, (hb.cell (p := ⟨g, _, none⟩) hlt).trans h2, (hb.cell (p := ⟨g, _, none⟩) hlt).trans h3⟩
theorem ToksAt.mono {B B' : Nat} {W : World} {v : Value} {l : List Item} (h : ToksAt B W v l) (hB : B ≤ B') : ToksAt B' W v l := by
  obtain ⟨a, cap, rfl, hc⟩ := h
  refine ⟨a, cap, rfl, fun hl => ?_⟩
  obtain ⟨g, hg, r⟩ := hc hl
  exact ⟨g, by omega, r⟩
theorem ToksAt.nil (B : Nat) (W : World) : ToksAt B W (.slice none 0 0) [] := ⟨none, 0, rfl, fun h => absurd rfl h⟩
theorem below_drewN' (B : Nat) (W : World) (n : Nat) : Below B W (W.drewN n) := ⟨rfl, rfl, rfl, Nat.le_refl _, fun _ _ => rfl⟩
theorem ToksAt.drewN {B : Nat} {W : World} {v : Value} {l : List Item} (h : ToksAt B W v l) (n : Nat) : ToksAt B (W.drewN n) v l :=
  h.below (B' := B) (below_drewN' B W n) (Nat.le_refl _)

theorem tcells_get (l : List Item) (i : Nat) (x : Item) (h : l[i]? = some x) : (tcells l)[i * 4]? = some (.int .i64 x.k) ∧ (tcells l)[i * 4 + 1]? = some (.string x.t) ∧ (tcells l)[i * 4 + 2]? = some (.int .i64 x.v) ∧ (tcells l)[i * 4 + 3]? = some (.int .i64 x.at_) := by
  induction l generalizing i with
  | nil => simp at h
  | cons y l ih =>
    have hc : tcells (y :: l) = [.int .i64 y.k, .string y.t, .int .i64 y.v, .int .i64 y.at_] ++ tcells l := by simp [tcells]
    rw [hc]
    cases i with
    | zero => simp at h; subst h; simp
    | succ i =>
      simp at h
      have := ih i h
      rw [show (i + 1) * 4 = i * 4 + 4 by omega]
      refine ⟨?_, ?_, ?_, ?_⟩
      · rw [List.getElem?_append_right (by simp)]; simpa using this.1
      · rw [List.getElem?_append_right (by simp)]; simpa using this.2.1
      · rw [List.getElem?_append_right (by simp)]; simpa using this.2.2.1
      · rw [List.getElem?_append_right (by simp)]; simpa using this.2.2.2
theorem toks_of_row {W : World} {base : Nat} {v : Value} {l : List Item} (h : W.ownsRow base 29 4 v l.length (tcells l)) : ToksAt W.heap.size W v l := by
  obtain ⟨a, cap, rfl⟩ := row_slice h
  refine ⟨a, cap, rfl, fun hl => ?_⟩
  rcases h.2 with ⟨hv, h0⟩ | ⟨g, cap', cur, hv, hb, hg, _⟩
  · exact absurd (List.eq_nil_of_length_eq_zero h0) hl
  · obtain rfl : a = some ⟨g, 0, none⟩ := by simpa using (Value.slice.inj hv).1
    refine ⟨g, (Array.getElem?_eq_some_iff.1 hg).1, rfl, fun i x hx => ?_⟩
    have hcell : ∀ j u, (tcells l)[j]? = some u → W.cell? ⟨g, j, none⟩ = some u := fun j u hu => by
      have := h.cells (g := g) rfl j u hu
      have hadd : (⟨g, 0, none⟩ : Addr).add j = ⟨g, j, none⟩ := by unfold Addr.add; split <;> simp_all
      rwa [hadd] at this
    obtain ⟨h0, h1, h2, h3⟩ := tcells_get l i x hx
    exact ⟨hcell _ _ h0, hcell _ _ h1, hcell _ _ h2, hcell _ _ h3⟩

set_option maxHeartbeats 1000000 in
theorem same_true (Ba Bb : Nat) (W : World) (va vb : Value) (l : List Item) (hl : l.length ≤ 100000) (ha : ToksAt Ba W va l) (hb : ToksAt Bb W vb l) :
    Calls Tryd.prog 14 #[va, vb] W fun e W' => e = .returned (.bool true) ∧ ∃ n, W' = W.drewN n := by
  obtain ⟨aa, ca, rfl, hca⟩ := ha
  obtain ⟨ab, cb, rfl, hcb⟩ := hb
  have hne : ((l.length : Int) != (l.length : Int)) = false := by simp
  go_enter Tryd.func14, Tryd.ntmps14
  have HA := Lib.hid hca
  have HB := Lib.hid hcb
  clear hca hcb
  go_wp2
  go_loopw [5] (fun i wr => ∃ k n : Nat, k ≤ l.length ∧ i = .int .i64 k ∧ wr = W.drewN n) (fun i _ => l.length - (intOf i).toNat)
  case atStart => exact ⟨0, 0, Nat.zero_le _, rfl, rfl⟩
  case round =>
    obtain ⟨k, n, hk, rfl, rfl⟩ := hrel
    by_cases hlt : k < l.length
    · have hx : l[k]? = some l[k] := List.getElem?_eq_getElem hlt
      obtain ⟨ga, hga, rfl, hcsa⟩ := HA.out (by intro h; rw [h] at hlt; simp at hlt)
      obtain ⟨gb, hgb, rfl, hcsb⟩ := HB.out (by intro h; rw [h] at hlt; simp at hlt)
      obtain ⟨a0, a1, a2, a3⟩ := hcsa k _ hx
      obtain ⟨b0, b1, b2, b3⟩ := hcsb k _ hx
      generalize l[k] = x at *
      clear hcsa hcsb hx
      go_wp2
      go_quiet (fail)
      go_wp2
      go_roundw
      case rel => exact ⟨k + 1, n + nq, by omega, by go_num, rfl⟩
      case measure => simp [intOf]; omega
    · go_wp2
      go_ret
      exact ⟨rfl, n, rfl⟩

/-- Two items are alike but for their offsets and errors. -/
def Alk (x y : Item) : Prop := y.k = x.k ∧ y.t = x.t ∧ y.v = x.v
set_option maxHeartbeats 2000000 in
theorem alike_true (Ba Bb : Nat) (W : World) (va vb : Value) (l m : List Item) (hl : l.length ≤ 100000) (hlen : m.length = l.length) (hm : ∀ (i : Nat) (x : Item), l[i]? = some x → ∃ y, m[i]? = some y ∧ Alk x y) (ha : ToksAt Ba W va l) (hb : ToksAt Bb W vb m) :
    Calls Tryd.prog 13 #[va, vb] W fun e W' => e = .returned (.bool true) ∧ ∃ n, W' = W.drewN n := by
  obtain ⟨aa, ca, rfl, hca⟩ := ha
  obtain ⟨ab, cb, rfl, hcb⟩ := hb
  have hne : ((l.length : Int) != (l.length : Int)) = false := by simp
  have HA := Lib.hid hca
  have HB := Lib.hid hcb
  have HM := Lib.hid hm
  rw [hlen]
  have HL := Lib.hid hlen
  clear hca hcb hm hlen
  go_enter Tryd.func13, Tryd.ntmps13
  go_wp2
  go_loopw [5] (fun i wr => ∃ k n : Nat, k ≤ l.length ∧ i = .int .i64 k ∧ wr = W.drewN n) (fun i _ => l.length - (intOf i).toNat)
  case atStart => exact ⟨0, 0, Nat.zero_le _, rfl, rfl⟩
  case round =>
    obtain ⟨k, n, hk, rfl, rfl⟩ := hrel
    by_cases hlt : k < l.length
    · have hx : l[k]? = some l[k] := List.getElem?_eq_getElem hlt
      obtain ⟨y, hy, e1, e2, e3⟩ := HM.out k _ hx
      obtain ⟨ga, hga, rfl, hcsa⟩ := HA.out (by intro h; rw [h] at hlt; simp at hlt)
      obtain ⟨gb, hgb, rfl, hcsb⟩ := HB.out (by intro h; rw [h] at hy; simp at hy)
      obtain ⟨a0, a1, a2, a3⟩ := hcsa k _ hx
      obtain ⟨b0, b1, b2, b3⟩ := hcsb k _ hy
      rw [e1] at b0
      rw [e2] at b1
      rw [e3] at b2
      generalize l[k] = x at *
      clear hcsa hcsb hx hy e1 e2 e3 a3 b3
      go_wp2
      go_quiet (fail)
      go_wp2
      go_roundw
      case rel => exact ⟨k + 1, n + nq, by omega, by go_num, rfl⟩
      case measure => simp [intOf]; omega
    · go_wp2
      go_ret
      exact ⟨rfl, n, rfl⟩
end Go.Proofs.YtaokedpcijmncaaDoor
