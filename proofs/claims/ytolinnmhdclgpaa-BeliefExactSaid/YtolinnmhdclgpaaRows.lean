/-
  No cell of these rows narrows 'for every input' (looked for: loops, veiled, ifaces, maps, wideKeys, modest, calm, conditions, laid).
  DERIVED. THE GIVEN ROWS OF THIS SEAT. 7 by the template 'for every input the law returns true; each argument reads behind the call as it read before'; 0 by the template 'total and deterministic' (their statements: YtolinnmhdclgpaaTotals.lean).
  GIVEN WITH THE SEED: the statements are not yours to turn. If you find one false, say at which input.
  Laid BY PROGRAM, IN A SANDBOX (cutbox-rows.mjs): the forced cells as the released guide's own fill.sh prints them over the translation 46dc8a1fa2f6de8d… (all of the seat's roots in one cut). By AI agents, Wed Nov 11 2026. No macro, syntax, notation, axiom, sorry.
-/
import Derived.Test.YtolinnmhdclgpaaChecked
import GoSem.Claim
import GoSem.ClaimJoined
import GoSem.ClaimMapViews
import Derived.JoinedTies
import Derived.KernelRfl
namespace Go.Proofs.Ytolinnmhdclgpaa
/- THE CELL 'sum', in the pinned program and in every row, IS THE sha256 OF THE DUMP (.gsa) THAT YtolinnmhdclgpaaProg.lean LOADS. Nothing in Lean hashes anything: it is a label: what it is worth is what the hold of that sum in a sandbox is worth. -/
noncomputable def Try.pinned : Pinned := { name := "ytolinnmhdclgpaa", sum := "46dc8a1fa2f6de8de0d051796bc2773a97eea62e827eba324728e7a6a278bfc1", checked := Try.checked }
namespace Rows
def none {H : Type} : Left H := { results := [], args := [] }

/-- 'domicilelaw33.BeliefMatchesReference': WHATEVER THE INPUT: true; the input reads as it did. -/
def beliefMatchesReferenceSpec : ChangeSpec := { name := "beliefMatchesReference", fn := fun _ => fun
  | [d1, d2, d3, d4, d5] => { results := [.lit (.bool true)], args := [d1, d2, d3, d4, d5] }
  | _ => none }
def beliefMatchesReferenceRow : OpenClaim := { program := "ytolinnmhdclgpaa", sum := "46dc8a1fa2f6de8de0d051796bc2773a97eea62e827eba324728e7a6a278bfc1", func := "domicile/domicilelaw33.BeliefMatchesReference", spec := "beliefMatchesReference", unfollowed := true, recurses := true, apart := false }
def BeliefMatchesReferenceSaid : Prop := beliefMatchesReferenceRow.holds Try.pinned (OpenSpec.ofChange beliefMatchesReferenceSpec)

/-- ITS FALSE NEIGHBOUR: 'it returns false'. Refute it at one input. -/
def beliefMatchesReferenceWrong : ChangeSpec := { name := "beliefMatchesReference", fn := fun _ => fun
  | [d1, d2, d3, d4, d5] => { results := [.lit (.bool false)], args := [d1, d2, d3, d4, d5] }
  | _ => none }
def BeliefMatchesReferenceWrongFalsely : Prop := beliefMatchesReferenceRow.holds Try.pinned (OpenSpec.ofChange beliefMatchesReferenceWrong)

/-- 'domicilelaw33.BeliefFormed': WHATEVER THE INPUT: true; the input reads as it did. -/
def beliefFormedSpec : ChangeSpec := { name := "beliefFormed", fn := fun _ => fun
  | [d1, d2, d3, d4, d5] => { results := [.lit (.bool true)], args := [d1, d2, d3, d4, d5] }
  | _ => none }
def beliefFormedRow : OpenClaim := { program := "ytolinnmhdclgpaa", sum := "46dc8a1fa2f6de8de0d051796bc2773a97eea62e827eba324728e7a6a278bfc1", func := "domicile/domicilelaw33.BeliefFormed", spec := "beliefFormed", unfollowed := true, recurses := true, apart := false }
def BeliefFormedSaid : Prop := beliefFormedRow.holds Try.pinned (OpenSpec.ofChange beliefFormedSpec)

/-- ITS FALSE NEIGHBOUR: 'it returns false'. Refute it at one input. -/
def beliefFormedWrong : ChangeSpec := { name := "beliefFormed", fn := fun _ => fun
  | [d1, d2, d3, d4, d5] => { results := [.lit (.bool false)], args := [d1, d2, d3, d4, d5] }
  | _ => none }
def BeliefFormedWrongFalsely : Prop := beliefFormedRow.holds Try.pinned (OpenSpec.ofChange beliefFormedWrong)

/-- 'domicilelaw33.BeliefTruth': WHATEVER THE INPUT: true; the input reads as it did. -/
def beliefTruthSpec : ChangeSpec := { name := "beliefTruth", fn := fun _ => fun
  | [d1, d2] => { results := [.lit (.bool true)], args := [d1, d2] }
  | _ => none }
def beliefTruthRow : OpenClaim := { program := "ytolinnmhdclgpaa", sum := "46dc8a1fa2f6de8de0d051796bc2773a97eea62e827eba324728e7a6a278bfc1", func := "domicile/domicilelaw33.BeliefTruth", spec := "beliefTruth", unfollowed := true, recurses := true, apart := false }
def BeliefTruthSaid : Prop := beliefTruthRow.holds Try.pinned (OpenSpec.ofChange beliefTruthSpec)

/-- ITS FALSE NEIGHBOUR: 'it returns false'. Refute it at one input. -/
def beliefTruthWrong : ChangeSpec := { name := "beliefTruth", fn := fun _ => fun
  | [d1, d2] => { results := [.lit (.bool false)], args := [d1, d2] }
  | _ => none }
def BeliefTruthWrongFalsely : Prop := beliefTruthRow.holds Try.pinned (OpenSpec.ofChange beliefTruthWrong)

/-- 'domicilelaw33.BeliefExact': WHATEVER THE INPUT: true; the input reads as it did. -/
def beliefExactSpec : ChangeSpec := { name := "beliefExact", fn := fun _ => fun
  | [d1, d2] => { results := [.lit (.bool true)], args := [d1, d2] }
  | _ => none }
def beliefExactRow : OpenClaim := { program := "ytolinnmhdclgpaa", sum := "46dc8a1fa2f6de8de0d051796bc2773a97eea62e827eba324728e7a6a278bfc1", func := "domicile/domicilelaw33.BeliefExact", spec := "beliefExact", unfollowed := true, recurses := true, apart := false }
def BeliefExactSaid : Prop := beliefExactRow.holds Try.pinned (OpenSpec.ofChange beliefExactSpec)

/-- ITS FALSE NEIGHBOUR: 'it returns false'. Refute it at one input. -/
def beliefExactWrong : ChangeSpec := { name := "beliefExact", fn := fun _ => fun
  | [d1, d2] => { results := [.lit (.bool false)], args := [d1, d2] }
  | _ => none }
def BeliefExactWrongFalsely : Prop := beliefExactRow.holds Try.pinned (OpenSpec.ofChange beliefExactWrong)

/-- 'domicilelaw33.BeliefOrders': WHATEVER THE INPUT: true; the input reads as it did. -/
def beliefOrdersSpec : ChangeSpec := { name := "beliefOrders", fn := fun _ => fun
  | [d1, d2, d3, d4, d5] => { results := [.lit (.bool true)], args := [d1, d2, d3, d4, d5] }
  | _ => none }
def beliefOrdersRow : OpenClaim := { program := "ytolinnmhdclgpaa", sum := "46dc8a1fa2f6de8de0d051796bc2773a97eea62e827eba324728e7a6a278bfc1", func := "domicile/domicilelaw33.BeliefOrders", spec := "beliefOrders", unfollowed := true, recurses := true, apart := false }
def BeliefOrdersSaid : Prop := beliefOrdersRow.holds Try.pinned (OpenSpec.ofChange beliefOrdersSpec)

/-- ITS FALSE NEIGHBOUR: 'it returns false'. Refute it at one input. -/
def beliefOrdersWrong : ChangeSpec := { name := "beliefOrders", fn := fun _ => fun
  | [d1, d2, d3, d4, d5] => { results := [.lit (.bool false)], args := [d1, d2, d3, d4, d5] }
  | _ => none }
def BeliefOrdersWrongFalsely : Prop := beliefOrdersRow.holds Try.pinned (OpenSpec.ofChange beliefOrdersWrong)

/-- 'domicilelaw33.BeliefCertain': WHATEVER THE INPUT: true; the input reads as it did. -/
def beliefCertainSpec : ChangeSpec := { name := "beliefCertain", fn := fun _ => fun
  | [d1, d2, d3] => { results := [.lit (.bool true)], args := [d1, d2, d3] }
  | _ => none }
def beliefCertainRow : OpenClaim := { program := "ytolinnmhdclgpaa", sum := "46dc8a1fa2f6de8de0d051796bc2773a97eea62e827eba324728e7a6a278bfc1", func := "domicile/domicilelaw33.BeliefCertain", spec := "beliefCertain", unfollowed := true, recurses := true, apart := false }
def BeliefCertainSaid : Prop := beliefCertainRow.holds Try.pinned (OpenSpec.ofChange beliefCertainSpec)

/-- ITS FALSE NEIGHBOUR: 'it returns false'. Refute it at one input. -/
def beliefCertainWrong : ChangeSpec := { name := "beliefCertain", fn := fun _ => fun
  | [d1, d2, d3] => { results := [.lit (.bool false)], args := [d1, d2, d3] }
  | _ => none }
def BeliefCertainWrongFalsely : Prop := beliefCertainRow.holds Try.pinned (OpenSpec.ofChange beliefCertainWrong)

/-- 'domicilelaw33.BeliefLate': WHATEVER THE INPUT: true; the input reads as it did. -/
def beliefLateSpec : ChangeSpec := { name := "beliefLate", fn := fun _ => fun
  | [d1, d2] => { results := [.lit (.bool true)], args := [d1, d2] }
  | _ => none }
def beliefLateRow : OpenClaim := { program := "ytolinnmhdclgpaa", sum := "46dc8a1fa2f6de8de0d051796bc2773a97eea62e827eba324728e7a6a278bfc1", func := "domicile/domicilelaw33.BeliefLate", spec := "beliefLate", unfollowed := true, recurses := true, apart := false }
def BeliefLateSaid : Prop := beliefLateRow.holds Try.pinned (OpenSpec.ofChange beliefLateSpec)

/-- ITS FALSE NEIGHBOUR: 'it returns false'. Refute it at one input. -/
def beliefLateWrong : ChangeSpec := { name := "beliefLate", fn := fun _ => fun
  | [d1, d2] => { results := [.lit (.bool false)], args := [d1, d2] }
  | _ => none }
def BeliefLateWrongFalsely : Prop := beliefLateRow.holds Try.pinned (OpenSpec.ofChange beliefLateWrong)

/- THE SECOND FORM. 'bulk': how many values and letters a reading holds, each counted each time it is reached (what is shared counts as often as it is met; a slice's spare places count too). A statement '..UptoSaid' is the law's where the arguments, and the package variables that the reading takes, are together of bulk at most 1048576: NARROWER than '..Said'. Prove '..Said' where nothing that the law and all that it calls make is longer than what came in: it says more and counts as full. Else prove '..UptoSaid'. A law counts once. -/
mutual
def uptoBulk {H : Type} : DataW H → Nat
  | .lit (.string bytes) => bytes.length + 1
  | .lit _ => 1
  | .nil => 1
  | .ptr d => uptoBulk d + 1
  | .slice elems spare => uptoBulkAll elems + uptoBulkAll spare + 1
  | .agg parts => uptoBulkAll parts + 1
  | .iface _ d => uptoBulk d + 1
  | .map entries => uptoBulkEntries entries + 1
  | .held _ => 1
def uptoBulkAll {H : Type} : List (DataW H) → Nat
  | [] => 0
  | d :: r => uptoBulk d + uptoBulkAll r
def uptoBulkEntries {H : Type} : List (Lit × DataW H) → Nat
  | [] => 0
  | x :: r => uptoBulkEntry x + uptoBulkEntries r
def uptoBulkEntry {H : Type} : Lit × DataW H → Nat
  | (.string bytes, d) => bytes.length + uptoBulk d + 1
  | (_, d) => uptoBulk d + 1
 end
def uptoSmall : (H : Type) → List (DataW H) → Bool := fun _ ds => decide (uptoBulkAll ds ≤ 1048576)
def OpenSpec.upto (s : _root_.Go.ChangeSpec) : _root_.Go.OpenSpec := { _root_.Go.OpenSpec.ofChange s with cond := some uptoSmall }

/-- 'domicilelaw33.BeliefMatchesReference', WHERE WHAT IT READS IS OF BULK AT MOST 1048576: true; the input reads as it did. -/
def beliefMatchesReferenceUptoRow : OpenClaim := { program := "ytolinnmhdclgpaa", sum := "46dc8a1fa2f6de8de0d051796bc2773a97eea62e827eba324728e7a6a278bfc1", func := "domicile/domicilelaw33.BeliefMatchesReference", spec := "beliefMatchesReference", unfollowed := true, recurses := true, apart := false, narrowed := true }
def BeliefMatchesReferenceUptoSaid : Prop := beliefMatchesReferenceUptoRow.holds Try.pinned (OpenSpec.upto beliefMatchesReferenceSpec)

/-- 'domicilelaw33.BeliefFormed', WHERE WHAT IT READS IS OF BULK AT MOST 1048576: true; the input reads as it did. -/
def beliefFormedUptoRow : OpenClaim := { program := "ytolinnmhdclgpaa", sum := "46dc8a1fa2f6de8de0d051796bc2773a97eea62e827eba324728e7a6a278bfc1", func := "domicile/domicilelaw33.BeliefFormed", spec := "beliefFormed", unfollowed := true, recurses := true, apart := false, narrowed := true }
def BeliefFormedUptoSaid : Prop := beliefFormedUptoRow.holds Try.pinned (OpenSpec.upto beliefFormedSpec)

/-- 'domicilelaw33.BeliefTruth', WHERE WHAT IT READS IS OF BULK AT MOST 1048576: true; the input reads as it did. -/
def beliefTruthUptoRow : OpenClaim := { program := "ytolinnmhdclgpaa", sum := "46dc8a1fa2f6de8de0d051796bc2773a97eea62e827eba324728e7a6a278bfc1", func := "domicile/domicilelaw33.BeliefTruth", spec := "beliefTruth", unfollowed := true, recurses := true, apart := false, narrowed := true }
def BeliefTruthUptoSaid : Prop := beliefTruthUptoRow.holds Try.pinned (OpenSpec.upto beliefTruthSpec)

/-- 'domicilelaw33.BeliefExact', WHERE WHAT IT READS IS OF BULK AT MOST 1048576: true; the input reads as it did. -/
def beliefExactUptoRow : OpenClaim := { program := "ytolinnmhdclgpaa", sum := "46dc8a1fa2f6de8de0d051796bc2773a97eea62e827eba324728e7a6a278bfc1", func := "domicile/domicilelaw33.BeliefExact", spec := "beliefExact", unfollowed := true, recurses := true, apart := false, narrowed := true }
def BeliefExactUptoSaid : Prop := beliefExactUptoRow.holds Try.pinned (OpenSpec.upto beliefExactSpec)

/-- 'domicilelaw33.BeliefOrders', WHERE WHAT IT READS IS OF BULK AT MOST 1048576: true; the input reads as it did. -/
def beliefOrdersUptoRow : OpenClaim := { program := "ytolinnmhdclgpaa", sum := "46dc8a1fa2f6de8de0d051796bc2773a97eea62e827eba324728e7a6a278bfc1", func := "domicile/domicilelaw33.BeliefOrders", spec := "beliefOrders", unfollowed := true, recurses := true, apart := false, narrowed := true }
def BeliefOrdersUptoSaid : Prop := beliefOrdersUptoRow.holds Try.pinned (OpenSpec.upto beliefOrdersSpec)

/-- 'domicilelaw33.BeliefCertain', WHERE WHAT IT READS IS OF BULK AT MOST 1048576: true; the input reads as it did. -/
def beliefCertainUptoRow : OpenClaim := { program := "ytolinnmhdclgpaa", sum := "46dc8a1fa2f6de8de0d051796bc2773a97eea62e827eba324728e7a6a278bfc1", func := "domicile/domicilelaw33.BeliefCertain", spec := "beliefCertain", unfollowed := true, recurses := true, apart := false, narrowed := true }
def BeliefCertainUptoSaid : Prop := beliefCertainUptoRow.holds Try.pinned (OpenSpec.upto beliefCertainSpec)

/-- 'domicilelaw33.BeliefLate', WHERE WHAT IT READS IS OF BULK AT MOST 1048576: true; the input reads as it did. -/
def beliefLateUptoRow : OpenClaim := { program := "ytolinnmhdclgpaa", sum := "46dc8a1fa2f6de8de0d051796bc2773a97eea62e827eba324728e7a6a278bfc1", func := "domicile/domicilelaw33.BeliefLate", spec := "beliefLate", unfollowed := true, recurses := true, apart := false, narrowed := true }
def BeliefLateUptoSaid : Prop := beliefLateUptoRow.holds Try.pinned (OpenSpec.upto beliefLateSpec)

end Rows
end Go.Proofs.Ytolinnmhdclgpaa
