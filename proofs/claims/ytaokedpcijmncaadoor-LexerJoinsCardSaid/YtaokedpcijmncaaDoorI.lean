/- The contract of the statements' fixed examples. -/
import Derived.Test.YtaokedpcijmncaaDoorH
namespace Go.Proofs.YtaokedpcijmncaaDoor
open Go.RowKit Go.Maps

theorem lex_ok (s : ByteArray) (w : World) (hs : s.size ≤ 20000) (hT : Tab w) (l : List Item) (hl : its s (gap s 0) = l) (hc : cut 0 l = none) :
    Calls Tryd.prog 10 #[.string s] w fun e w' => ∃ v, e = .returned (.tuple #[v, .int .i64 0, .int .i64 (-1)]) ∧ ToksAt w'.heap.size w' v l ∧ Below w.heap.size w w' := by
  subst hl
  refine (lex_any s w hs hT).mono fun e w' h => ?_
  obtain ⟨⟨_, v, he, hr⟩ | ⟨er, off, h, _⟩, hB⟩ := h
  · exact ⟨v, he, toks_of_row hr, hB⟩
  · rw [hc] at h; cases h
theorem lex_err (s : ByteArray) (w : World) (hs : s.size ≤ 20000) (hT : Tab w) (er off : Int) (hc : cut 0 (its s (gap s 0)) = some (er, off)) :
    Calls Tryd.prog 10 #[.string s] w fun e w' => e = .returned (.tuple #[.slice none 0 0, .int .i64 er, .int .i64 off]) ∧ Below w.heap.size w w' := by
  refine (lex_any s w hs hT).mono fun e w' h => ?_
  obtain ⟨⟨h, _⟩ | ⟨er', off', h, he⟩, hB⟩ := h
  · rw [hc] at h; cases h
  · rw [hc] at h
    simp only [Option.some.injEq, Prod.mk.injEq] at h
    obtain ⟨rfl, rfl⟩ := h
    exact ⟨he, hB⟩

def listA : List Item := [⟨1, ⟨#[116]⟩, 0, 0, 0⟩, ⟨3, ⟨#[62, 61]⟩, 0, 2, 0⟩, ⟨2, ⟨#[50, 49, 46, 53]⟩, 215, 5, 0⟩, ⟨1, ⟨#[67]⟩, 0, 10, 0⟩, ⟨3, ⟨#[59]⟩, 0, 11, 0⟩]
theorem itsA : its ⟨#[116, 32, 62, 61, 32, 50, 49, 46, 53, 32, 67, 59]⟩ (gap ⟨#[116, 32, 62, 61, 32, 50, 49, 46, 53, 32, 67, 59]⟩ 0) = listA := by kernel_rfl
theorem cutA : cut 0 listA = none := by kernel_rfl
def listB : List Item := [⟨1, ⟨#[97]⟩, 0, 0, 0⟩, ⟨3, ⟨#[46]⟩, 0, 1, 0⟩, ⟨1, ⟨#[98]⟩, 0, 2, 0⟩, ⟨2, ⟨#[49, 46, 50]⟩, 12, 4, 0⟩, ⟨3, ⟨#[46]⟩, 0, 7, 0⟩, ⟨2, ⟨#[51]⟩, 30, 8, 0⟩]
theorem itsB : its ⟨#[97, 46, 98, 32, 49, 46, 50, 46, 51, 32, 35, 32, 110, 111, 116, 101]⟩ (gap ⟨#[97, 46, 98, 32, 49, 46, 50, 46, 51, 32, 35, 32, 110, 111, 116, 101]⟩ 0) = listB := by kernel_rfl
theorem cutB : cut 0 listB = none := by kernel_rfl
def listF : List Item := []
theorem itsF : its ⟨#[]⟩ (gap ⟨#[]⟩ 0) = listF := by kernel_rfl
theorem cutF : cut 0 listF = none := by kernel_rfl
theorem cutC : cut 0 (its ⟨#[97, 32, 36]⟩ (gap ⟨#[97, 32, 36]⟩ 0)) = some (3, 2) := by kernel_rfl
theorem cutD : cut 0 (its ⟨#[49, 46, 50, 53]⟩ (gap ⟨#[49, 46, 50, 53]⟩ 0)) = some (4, 0) := by kernel_rfl
theorem cutE : cut 0 (its ⟨#[32, 49, 50, 51, 52, 53, 54, 55, 56, 57, 48]⟩ (gap ⟨#[32, 49, 50, 51, 52, 53, 54, 55, 56, 57, 48]⟩ 0)) = some (4, 1) := by kernel_rfl
end Go.Proofs.YtaokedpcijmncaaDoor
