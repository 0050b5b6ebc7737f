/- Sets of tags: the reference's 'Add', 'Merge', 'Has'. -/
import Derived.Test.YtoaleijfpocdjaaRi
namespace Go.Proofs.Ytoaleijfpocdjaa
open Go.RowKit

theorem add_e {l : List Int} {n : Int} (h1 : stB l = true) (h2 : tgB n = true) : mgE l [n] = if (insL l n).length ≤ 400 then 0 else 30 := by
  unfold mgE; rw [h1, st_one, h2, insL_mg h1]; rfl
theorem fold_e {l m : List Int} (h1 : stB l = true) (h2 : stB m = true) : mgE l m = if (m.foldl insL l).length ≤ 400 then 0 else 30 := by
  unfold mgE; rw [h1, h2, fold_mg h1 h2]; rfl
/-- A list of the argument, or one of the call's own. -/
def LS (w : World) (base : Nat) (wr : World) (u : Value) (l : List Int) : Prop := IntsAt w u l ∨ wr.ownsRow base 3 1 u l.length (l.map (Value.int .i64))
theorem LS.ints {w : World} {base : Nat} {wr : World} {u : Value} {l : List Int} (h : LS w base wr u l) (hb : Below w.heap.size w wr) : IntsAt wr u l := h.elim (fun h => h.step hb) ints_of_row
theorem LS.slice {w : World} {base : Nat} {wr : World} {u : Value} {l : List Int} (h : LS w base wr u l) : ∃ a c, u = .slice a l.length c := by
  rcases h with ⟨a, c, h, -⟩ | h
  · exact ⟨a, c, h⟩
  · exact row_slice h
theorem LS.set {w : World} {base g j : Nat} {wr : World} {u x : Value} {l : List Int} (h : LS w base wr u l) (hb : Below w.heap.size w (wr.setCell ⟨g, j, none⟩ x)) (hg : g < base) : IntsAt (wr.setCell ⟨g, j, none⟩ x) u l :=
  h.elim (fun h => h.step hb) (fun h => ints_of_row (row_other h hg))
theorem foldT {l m : List Int} {k : Nat} (h : k = m.length) : (m.take k).foldl insL l = m.foldl insL l := by rw [h, List.take_length]
end Go.Proofs.Ytoaleijfpocdjaa
