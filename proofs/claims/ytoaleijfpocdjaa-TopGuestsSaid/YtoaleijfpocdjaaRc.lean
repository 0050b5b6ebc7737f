/- Sets of tags: the reference's 'Tag', 'Valid' and 'In'. -/
import Derived.Test.YtoaleijfpocdjaaRb
namespace Go.Proofs.Ytoaleijfpocdjaa
open Go.RowKit

/-- Is a number in a list? -/
def inB (l : List Int) (n : Int) : Bool := l.contains n
theorem inB_iff {l : List Int} {n : Int} : inB l n = true ↔ n ∈ l := by unfold inB; exact List.contains_iff_mem
end Go.Proofs.Ytoaleijfpocdjaa
