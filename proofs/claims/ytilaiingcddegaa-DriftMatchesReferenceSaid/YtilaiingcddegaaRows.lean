/-
  No cell of these rows narrows 'for every input' (looked for: loops, veiled, ifaces, maps, wideKeys, modest, calm, conditions, laid).
  DERIVED. THE GIVEN ROWS OF THIS SEAT. 6 by the template 'for every input the law returns true; each argument reads behind the call as it read before'; 0 by the template 'total and deterministic' (their statements: YtilaiingcddegaaTotals.lean).
  GIVEN WITH THE SEED: the statements are not yours to turn. If you find one false, say at which input.
  Laid BY PROGRAM, IN A SANDBOX (cutbox-rows.mjs): the forced cells as the released guide's own fill.sh prints them over the translation d833ecfc4e86e874… (all of the seat's roots in one cut). By AI agents, Wed Nov 11 2026. No macro, syntax, notation, axiom, sorry.
-/
import Derived.Test.YtilaiingcddegaaChecked
import GoSem.Claim
import GoSem.ClaimJoined
import GoSem.ClaimMapViews
import Derived.JoinedTies
import Derived.KernelRfl
namespace Go.Proofs.Ytilaiingcddegaa
/- THE CELL 'sum', in the pinned program and in every row, IS THE sha256 OF THE DUMP (.gsa) THAT YtilaiingcddegaaProg.lean LOADS. Nothing in Lean hashes anything: it is a label: what it is worth is what the hold of that sum in a sandbox is worth. -/
noncomputable def Try.pinned : Pinned := { name := "ytilaiingcddegaa", sum := "d833ecfc4e86e874ee26194697d2656dc2fb65cf0f96f581e32edc5f9e8f08e7", checked := Try.checked }
namespace Rows
def none {H : Type} : Left H := { results := [], args := [] }

/-- 'domicilelaw37.DriftMatchesReference': WHATEVER THE INPUT: true; the input reads as it did. -/
def driftMatchesReferenceSpec : ChangeSpec := { name := "driftMatchesReference", fn := fun _ => fun
  | [d1, d2, d3, d4, d5] => { results := [.lit (.bool true)], args := [d1, d2, d3, d4, d5] }
  | _ => none }
def driftMatchesReferenceRow : OpenClaim := { program := "ytilaiingcddegaa", sum := "d833ecfc4e86e874ee26194697d2656dc2fb65cf0f96f581e32edc5f9e8f08e7", func := "domicile/domicilelaw37.DriftMatchesReference", spec := "driftMatchesReference", unfollowed := true, recurses := true, apart := false }
def DriftMatchesReferenceSaid : Prop := driftMatchesReferenceRow.holds Try.pinned (OpenSpec.ofChange driftMatchesReferenceSpec)

/-- ITS FALSE NEIGHBOUR: 'it returns false'. Refute it at one input. -/
def driftMatchesReferenceWrong : ChangeSpec := { name := "driftMatchesReference", fn := fun _ => fun
  | [d1, d2, d3, d4, d5] => { results := [.lit (.bool false)], args := [d1, d2, d3, d4, d5] }
  | _ => none }
def DriftMatchesReferenceWrongFalsely : Prop := driftMatchesReferenceRow.holds Try.pinned (OpenSpec.ofChange driftMatchesReferenceWrong)

/-- 'domicilelaw37.DriftExact': WHATEVER THE INPUT: true; the input reads as it did. -/
def driftExactSpec : ChangeSpec := { name := "driftExact", fn := fun _ => fun
  | [d1, d2, d3] => { results := [.lit (.bool true)], args := [d1, d2, d3] }
  | _ => none }
def driftExactRow : OpenClaim := { program := "ytilaiingcddegaa", sum := "d833ecfc4e86e874ee26194697d2656dc2fb65cf0f96f581e32edc5f9e8f08e7", func := "domicile/domicilelaw37.DriftExact", spec := "driftExact", unfollowed := true, recurses := true, apart := false }
def DriftExactSaid : Prop := driftExactRow.holds Try.pinned (OpenSpec.ofChange driftExactSpec)

/-- ITS FALSE NEIGHBOUR: 'it returns false'. Refute it at one input. -/
def driftExactWrong : ChangeSpec := { name := "driftExact", fn := fun _ => fun
  | [d1, d2, d3] => { results := [.lit (.bool false)], args := [d1, d2, d3] }
  | _ => none }
def DriftExactWrongFalsely : Prop := driftExactRow.holds Try.pinned (OpenSpec.ofChange driftExactWrong)

/-- 'domicilelaw37.DriftParts': WHATEVER THE INPUT: true; the input reads as it did. -/
def driftPartsSpec : ChangeSpec := { name := "driftParts", fn := fun _ => fun
  | [d1, d2, d3, d4] => { results := [.lit (.bool true)], args := [d1, d2, d3, d4] }
  | _ => none }
def driftPartsRow : OpenClaim := { program := "ytilaiingcddegaa", sum := "d833ecfc4e86e874ee26194697d2656dc2fb65cf0f96f581e32edc5f9e8f08e7", func := "domicile/domicilelaw37.DriftParts", spec := "driftParts", unfollowed := true, recurses := true, apart := false }
def DriftPartsSaid : Prop := driftPartsRow.holds Try.pinned (OpenSpec.ofChange driftPartsSpec)

/-- ITS FALSE NEIGHBOUR: 'it returns false'. Refute it at one input. -/
def driftPartsWrong : ChangeSpec := { name := "driftParts", fn := fun _ => fun
  | [d1, d2, d3, d4] => { results := [.lit (.bool false)], args := [d1, d2, d3, d4] }
  | _ => none }
def DriftPartsWrongFalsely : Prop := driftPartsRow.holds Try.pinned (OpenSpec.ofChange driftPartsWrong)

/-- 'domicilelaw37.DriftTruth': WHATEVER THE INPUT: true; the input reads as it did. -/
def driftTruthSpec : ChangeSpec := { name := "driftTruth", fn := fun _ => fun
  | [d1, d2, d3, d4, d5, d6, d7, d8] => { results := [.lit (.bool true)], args := [d1, d2, d3, d4, d5, d6, d7, d8] }
  | _ => none }
def driftTruthRow : OpenClaim := { program := "ytilaiingcddegaa", sum := "d833ecfc4e86e874ee26194697d2656dc2fb65cf0f96f581e32edc5f9e8f08e7", func := "domicile/domicilelaw37.DriftTruth", spec := "driftTruth", unfollowed := true, recurses := true, apart := false }
def DriftTruthSaid : Prop := driftTruthRow.holds Try.pinned (OpenSpec.ofChange driftTruthSpec)

/-- ITS FALSE NEIGHBOUR: 'it returns false'. Refute it at one input. -/
def driftTruthWrong : ChangeSpec := { name := "driftTruth", fn := fun _ => fun
  | [d1, d2, d3, d4, d5, d6, d7, d8] => { results := [.lit (.bool false)], args := [d1, d2, d3, d4, d5, d6, d7, d8] }
  | _ => none }
def DriftTruthWrongFalsely : Prop := driftTruthRow.holds Try.pinned (OpenSpec.ofChange driftTruthWrong)

/-- 'domicilelaw37.DriftBefore': WHATEVER THE INPUT: true; the input reads as it did. -/
def driftBeforeSpec : ChangeSpec := { name := "driftBefore", fn := fun _ => fun
  | [d1, d2, d3] => { results := [.lit (.bool true)], args := [d1, d2, d3] }
  | _ => none }
def driftBeforeRow : OpenClaim := { program := "ytilaiingcddegaa", sum := "d833ecfc4e86e874ee26194697d2656dc2fb65cf0f96f581e32edc5f9e8f08e7", func := "domicile/domicilelaw37.DriftBefore", spec := "driftBefore", unfollowed := true, recurses := true, apart := false }
def DriftBeforeSaid : Prop := driftBeforeRow.holds Try.pinned (OpenSpec.ofChange driftBeforeSpec)

/-- ITS FALSE NEIGHBOUR: 'it returns false'. Refute it at one input. -/
def driftBeforeWrong : ChangeSpec := { name := "driftBefore", fn := fun _ => fun
  | [d1, d2, d3] => { results := [.lit (.bool false)], args := [d1, d2, d3] }
  | _ => none }
def DriftBeforeWrongFalsely : Prop := driftBeforeRow.holds Try.pinned (OpenSpec.ofChange driftBeforeWrong)

/-- 'domicilelaw37.DriftBack': WHATEVER THE INPUT: true; the input reads as it did. -/
def driftBackSpec : ChangeSpec := { name := "driftBack", fn := fun _ => fun
  | [d1, d2, d3] => { results := [.lit (.bool true)], args := [d1, d2, d3] }
  | _ => none }
def driftBackRow : OpenClaim := { program := "ytilaiingcddegaa", sum := "d833ecfc4e86e874ee26194697d2656dc2fb65cf0f96f581e32edc5f9e8f08e7", func := "domicile/domicilelaw37.DriftBack", spec := "driftBack", unfollowed := true, recurses := true, apart := false }
def DriftBackSaid : Prop := driftBackRow.holds Try.pinned (OpenSpec.ofChange driftBackSpec)

/-- ITS FALSE NEIGHBOUR: 'it returns false'. Refute it at one input. -/
def driftBackWrong : ChangeSpec := { name := "driftBack", fn := fun _ => fun
  | [d1, d2, d3] => { results := [.lit (.bool false)], args := [d1, d2, d3] }
  | _ => none }
def DriftBackWrongFalsely : Prop := driftBackRow.holds Try.pinned (OpenSpec.ofChange driftBackWrong)

/- THE SECOND FORM. 'bulk': how many values and letters a reading holds, each counted each time it is reached (what is shared counts as often as it is met; a slice's spare places count too). A statement '..UptoSaid' is the law's where the arguments, and the package variables that the reading takes, are together of bulk at most 1048576: NARROWER than '..Said'. Prove '..Said' where nothing that the law and all that it calls make is longer than what came in: it says more and counts as full. Else prove '..UptoSaid'. A law counts once. -/
mutual
def uptoBulk {H : Type} : DataW H → Nat
  | .lit (.string bytes) => bytes.length + 1
  | .lit _ => 1
  | .nil => 1
  | .ptr d => uptoBulk d + 1
  | .slice elems spare => uptoBulkAll elems + uptoBulkAll spare + 1
  | .agg parts => uptoBulkAll parts + 1
  | .iface _ d => uptoBulk d + 1
  | .map entries => uptoBulkEntries entries + 1
  | .held _ => 1
def uptoBulkAll {H : Type} : List (DataW H) → Nat
  | [] => 0
  | d :: r => uptoBulk d + uptoBulkAll r
def uptoBulkEntries {H : Type} : List (Lit × DataW H) → Nat
  | [] => 0
  | x :: r => uptoBulkEntry x + uptoBulkEntries r
def uptoBulkEntry {H : Type} : Lit × DataW H → Nat
  | (.string bytes, d) => bytes.length + uptoBulk d + 1
  | (_, d) => uptoBulk d + 1
 end
def uptoSmall : (H : Type) → List (DataW H) → Bool := fun _ ds => decide (uptoBulkAll ds ≤ 1048576)
def OpenSpec.upto (s : _root_.Go.ChangeSpec) : _root_.Go.OpenSpec := { _root_.Go.OpenSpec.ofChange s with cond := some uptoSmall }

/-- 'domicilelaw37.DriftMatchesReference', WHERE WHAT IT READS IS OF BULK AT MOST 1048576: true; the input reads as it did. -/
def driftMatchesReferenceUptoRow : OpenClaim := { program := "ytilaiingcddegaa", sum := "d833ecfc4e86e874ee26194697d2656dc2fb65cf0f96f581e32edc5f9e8f08e7", func := "domicile/domicilelaw37.DriftMatchesReference", spec := "driftMatchesReference", unfollowed := true, recurses := true, apart := false, narrowed := true }
def DriftMatchesReferenceUptoSaid : Prop := driftMatchesReferenceUptoRow.holds Try.pinned (OpenSpec.upto driftMatchesReferenceSpec)

/-- 'domicilelaw37.DriftExact', WHERE WHAT IT READS IS OF BULK AT MOST 1048576: true; the input reads as it did. -/
def driftExactUptoRow : OpenClaim := { program := "ytilaiingcddegaa", sum := "d833ecfc4e86e874ee26194697d2656dc2fb65cf0f96f581e32edc5f9e8f08e7", func := "domicile/domicilelaw37.DriftExact", spec := "driftExact", unfollowed := true, recurses := true, apart := false, narrowed := true }
def DriftExactUptoSaid : Prop := driftExactUptoRow.holds Try.pinned (OpenSpec.upto driftExactSpec)

/-- 'domicilelaw37.DriftParts', WHERE WHAT IT READS IS OF BULK AT MOST 1048576: true; the input reads as it did. -/
def driftPartsUptoRow : OpenClaim := { program := "ytilaiingcddegaa", sum := "d833ecfc4e86e874ee26194697d2656dc2fb65cf0f96f581e32edc5f9e8f08e7", func := "domicile/domicilelaw37.DriftParts", spec := "driftParts", unfollowed := true, recurses := true, apart := false, narrowed := true }
def DriftPartsUptoSaid : Prop := driftPartsUptoRow.holds Try.pinned (OpenSpec.upto driftPartsSpec)

/-- 'domicilelaw37.DriftTruth', WHERE WHAT IT READS IS OF BULK AT MOST 1048576: true; the input reads as it did. -/
def driftTruthUptoRow : OpenClaim := { program := "ytilaiingcddegaa", sum := "d833ecfc4e86e874ee26194697d2656dc2fb65cf0f96f581e32edc5f9e8f08e7", func := "domicile/domicilelaw37.DriftTruth", spec := "driftTruth", unfollowed := true, recurses := true, apart := false, narrowed := true }
def DriftTruthUptoSaid : Prop := driftTruthUptoRow.holds Try.pinned (OpenSpec.upto driftTruthSpec)

/-- 'domicilelaw37.DriftBefore', WHERE WHAT IT READS IS OF BULK AT MOST 1048576: true; the input reads as it did. -/
def driftBeforeUptoRow : OpenClaim := { program := "ytilaiingcddegaa", sum := "d833ecfc4e86e874ee26194697d2656dc2fb65cf0f96f581e32edc5f9e8f08e7", func := "domicile/domicilelaw37.DriftBefore", spec := "driftBefore", unfollowed := true, recurses := true, apart := false, narrowed := true }
def DriftBeforeUptoSaid : Prop := driftBeforeUptoRow.holds Try.pinned (OpenSpec.upto driftBeforeSpec)

/-- 'domicilelaw37.DriftBack', WHERE WHAT IT READS IS OF BULK AT MOST 1048576: true; the input reads as it did. -/
def driftBackUptoRow : OpenClaim := { program := "ytilaiingcddegaa", sum := "d833ecfc4e86e874ee26194697d2656dc2fb65cf0f96f581e32edc5f9e8f08e7", func := "domicile/domicilelaw37.DriftBack", spec := "driftBack", unfollowed := true, recurses := true, apart := false, narrowed := true }
def DriftBackUptoSaid : Prop := driftBackUptoRow.holds Try.pinned (OpenSpec.upto driftBackSpec)

end Rows
end Go.Proofs.Ytilaiingcddegaa
