/-
  No cell of these rows narrows 'for every input' (looked for: loops, veiled, ifaces, maps, wideKeys, modest, calm, conditions, laid).
  DERIVED. THE GIVEN ROWS OF THIS SEAT. 6 by the template 'for every input the law returns true; each argument reads behind the call as it read before'; 0 by the template 'total and deterministic' (their statements: YtkamkkjijjkfdaaTotals.lean).
  GIVEN WITH THE SEED: the statements are not yours to turn. If you find one false, say at which input.
  Laid BY PROGRAM, IN A SANDBOX (cutbox-rows.mjs): the forced cells as the released guide's own fill.sh prints them over the translation ddfc0c96560d987d… (all of the seat's roots in one cut). By AI agents, Wed Nov 11 2026. No macro, syntax, notation, axiom, sorry.
-/
import Derived.Test.YtkamkkjijjkfdaaChecked
import GoSem.Claim
import GoSem.ClaimJoined
import GoSem.ClaimMapViews
import Derived.JoinedTies
import Derived.KernelRfl
namespace Go.Proofs.Ytkamkkjijjkfdaa
/- THE CELL 'sum', in the pinned program and in every row, IS THE sha256 OF THE DUMP (.gsa) THAT YtkamkkjijjkfdaaProg.lean LOADS. Nothing in Lean hashes anything: it is a label: what it is worth is what the hold of that sum in a sandbox is worth. -/
noncomputable def Try.pinned : Pinned := { name := "ytkamkkjijjkfdaa", sum := "ddfc0c96560d987de9b48829c552388b070bed8e877614f20eb52fdc35bb14d1", checked := Try.checked }
namespace Rows
def none {H : Type} : Left H := { results := [], args := [] }

/-- 'domicilelaw32.DeliveryMatchesReference': WHATEVER THE INPUT: true; the input reads as it did. -/
def deliveryMatchesReferenceSpec : ChangeSpec := { name := "deliveryMatchesReference", fn := fun _ => fun
  | [d1, d2, d3, d4, d5, d6, d7] => { results := [.lit (.bool true)], args := [d1, d2, d3, d4, d5, d6, d7] }
  | _ => none }
def deliveryMatchesReferenceRow : OpenClaim := { program := "ytkamkkjijjkfdaa", sum := "ddfc0c96560d987de9b48829c552388b070bed8e877614f20eb52fdc35bb14d1", func := "domicile/domicilelaw32.DeliveryMatchesReference", spec := "deliveryMatchesReference", unfollowed := true, recurses := true, apart := false }
def DeliveryMatchesReferenceSaid : Prop := deliveryMatchesReferenceRow.holds Try.pinned (OpenSpec.ofChange deliveryMatchesReferenceSpec)

/-- ITS FALSE NEIGHBOUR: 'it returns false'. Refute it at one input. -/
def deliveryMatchesReferenceWrong : ChangeSpec := { name := "deliveryMatchesReference", fn := fun _ => fun
  | [d1, d2, d3, d4, d5, d6, d7] => { results := [.lit (.bool false)], args := [d1, d2, d3, d4, d5, d6, d7] }
  | _ => none }
def DeliveryMatchesReferenceWrongFalsely : Prop := deliveryMatchesReferenceRow.holds Try.pinned (OpenSpec.ofChange deliveryMatchesReferenceWrong)

/-- 'domicilelaw32.DeliveryOnce': WHATEVER THE INPUT: true; the input reads as it did. -/
def deliveryOnceSpec : ChangeSpec := { name := "deliveryOnce", fn := fun _ => fun
  | [d] => { results := [.lit (.bool true)], args := [d] }
  | _ => none }
def deliveryOnceRow : OpenClaim := { program := "ytkamkkjijjkfdaa", sum := "ddfc0c96560d987de9b48829c552388b070bed8e877614f20eb52fdc35bb14d1", func := "domicile/domicilelaw32.DeliveryOnce", spec := "deliveryOnce", unfollowed := true, recurses := true, apart := false }
def DeliveryOnceSaid : Prop := deliveryOnceRow.holds Try.pinned (OpenSpec.ofChange deliveryOnceSpec)

/-- ITS FALSE NEIGHBOUR: 'it returns false'. Refute it at one input. -/
def deliveryOnceWrong : ChangeSpec := { name := "deliveryOnce", fn := fun _ => fun
  | [d] => { results := [.lit (.bool false)], args := [d] }
  | _ => none }
def DeliveryOnceWrongFalsely : Prop := deliveryOnceRow.holds Try.pinned (OpenSpec.ofChange deliveryOnceWrong)

/-- 'domicilelaw32.DeliveryEnds': WHATEVER THE INPUT: true; the input reads as it did. -/
def deliveryEndsSpec : ChangeSpec := { name := "deliveryEnds", fn := fun _ => fun
  | [d] => { results := [.lit (.bool true)], args := [d] }
  | _ => none }
def deliveryEndsRow : OpenClaim := { program := "ytkamkkjijjkfdaa", sum := "ddfc0c96560d987de9b48829c552388b070bed8e877614f20eb52fdc35bb14d1", func := "domicile/domicilelaw32.DeliveryEnds", spec := "deliveryEnds", unfollowed := true, recurses := true, apart := false }
def DeliveryEndsSaid : Prop := deliveryEndsRow.holds Try.pinned (OpenSpec.ofChange deliveryEndsSpec)

/-- ITS FALSE NEIGHBOUR: 'it returns false'. Refute it at one input. -/
def deliveryEndsWrong : ChangeSpec := { name := "deliveryEnds", fn := fun _ => fun
  | [d] => { results := [.lit (.bool false)], args := [d] }
  | _ => none }
def DeliveryEndsWrongFalsely : Prop := deliveryEndsRow.holds Try.pinned (OpenSpec.ofChange deliveryEndsWrong)

/-- 'domicilelaw32.DeliveryValues': WHATEVER THE INPUT: true; the input reads as it did. -/
def deliveryValuesSpec : ChangeSpec := { name := "deliveryValues", fn := fun _ => fun
  | [d] => { results := [.lit (.bool true)], args := [d] }
  | _ => none }
def deliveryValuesRow : OpenClaim := { program := "ytkamkkjijjkfdaa", sum := "ddfc0c96560d987de9b48829c552388b070bed8e877614f20eb52fdc35bb14d1", func := "domicile/domicilelaw32.DeliveryValues", spec := "deliveryValues", unfollowed := true, recurses := true, apart := false }
def DeliveryValuesSaid : Prop := deliveryValuesRow.holds Try.pinned (OpenSpec.ofChange deliveryValuesSpec)

/-- ITS FALSE NEIGHBOUR: 'it returns false'. Refute it at one input. -/
def deliveryValuesWrong : ChangeSpec := { name := "deliveryValues", fn := fun _ => fun
  | [d] => { results := [.lit (.bool false)], args := [d] }
  | _ => none }
def DeliveryValuesWrongFalsely : Prop := deliveryValuesRow.holds Try.pinned (OpenSpec.ofChange deliveryValuesWrong)

/-- 'domicilelaw32.DeliveryKnown': WHATEVER THE INPUT: true; the input reads as it did. -/
def deliveryKnownSpec : ChangeSpec := { name := "deliveryKnown", fn := fun _ => fun
  | [d1, d2, d3, d4] => { results := [.lit (.bool true)], args := [d1, d2, d3, d4] }
  | _ => none }
def deliveryKnownRow : OpenClaim := { program := "ytkamkkjijjkfdaa", sum := "ddfc0c96560d987de9b48829c552388b070bed8e877614f20eb52fdc35bb14d1", func := "domicile/domicilelaw32.DeliveryKnown", spec := "deliveryKnown", unfollowed := true, recurses := true, apart := false }
def DeliveryKnownSaid : Prop := deliveryKnownRow.holds Try.pinned (OpenSpec.ofChange deliveryKnownSpec)

/-- ITS FALSE NEIGHBOUR: 'it returns false'. Refute it at one input. -/
def deliveryKnownWrong : ChangeSpec := { name := "deliveryKnown", fn := fun _ => fun
  | [d1, d2, d3, d4] => { results := [.lit (.bool false)], args := [d1, d2, d3, d4] }
  | _ => none }
def DeliveryKnownWrongFalsely : Prop := deliveryKnownRow.holds Try.pinned (OpenSpec.ofChange deliveryKnownWrong)

/-- 'domicilelaw32.DeliveryErrors': WHATEVER THE INPUT: true; the input reads as it did. -/
def deliveryErrorsSpec : ChangeSpec := { name := "deliveryErrors", fn := fun _ => fun
  | [d1, d2, d3, d4] => { results := [.lit (.bool true)], args := [d1, d2, d3, d4] }
  | _ => none }
def deliveryErrorsRow : OpenClaim := { program := "ytkamkkjijjkfdaa", sum := "ddfc0c96560d987de9b48829c552388b070bed8e877614f20eb52fdc35bb14d1", func := "domicile/domicilelaw32.DeliveryErrors", spec := "deliveryErrors", unfollowed := true, recurses := true, apart := false }
def DeliveryErrorsSaid : Prop := deliveryErrorsRow.holds Try.pinned (OpenSpec.ofChange deliveryErrorsSpec)

/-- ITS FALSE NEIGHBOUR: 'it returns false'. Refute it at one input. -/
def deliveryErrorsWrong : ChangeSpec := { name := "deliveryErrors", fn := fun _ => fun
  | [d1, d2, d3, d4] => { results := [.lit (.bool false)], args := [d1, d2, d3, d4] }
  | _ => none }
def DeliveryErrorsWrongFalsely : Prop := deliveryErrorsRow.holds Try.pinned (OpenSpec.ofChange deliveryErrorsWrong)

/- THE SECOND FORM. 'bulk': how many values and letters a reading holds, each counted each time it is reached (what is shared counts as often as it is met; a slice's spare places count too). A statement '..UptoSaid' is the law's where the arguments, and the package variables that the reading takes, are together of bulk at most 1048576: NARROWER than '..Said'. Prove '..Said' where nothing that the law and all that it calls make is longer than what came in: it says more and counts as full. Else prove '..UptoSaid'. A law counts once. -/
mutual
def uptoBulk {H : Type} : DataW H → Nat
  | .lit (.string bytes) => bytes.length + 1
  | .lit _ => 1
  | .nil => 1
  | .ptr d => uptoBulk d + 1
  | .slice elems spare => uptoBulkAll elems + uptoBulkAll spare + 1
  | .agg parts => uptoBulkAll parts + 1
  | .iface _ d => uptoBulk d + 1
  | .map entries => uptoBulkEntries entries + 1
  | .held _ => 1
def uptoBulkAll {H : Type} : List (DataW H) → Nat
  | [] => 0
  | d :: r => uptoBulk d + uptoBulkAll r
def uptoBulkEntries {H : Type} : List (Lit × DataW H) → Nat
  | [] => 0
  | x :: r => uptoBulkEntry x + uptoBulkEntries r
def uptoBulkEntry {H : Type} : Lit × DataW H → Nat
  | (.string bytes, d) => bytes.length + uptoBulk d + 1
  | (_, d) => uptoBulk d + 1
 end
def uptoSmall : (H : Type) → List (DataW H) → Bool := fun _ ds => decide (uptoBulkAll ds ≤ 1048576)
def OpenSpec.upto (s : _root_.Go.ChangeSpec) : _root_.Go.OpenSpec := { _root_.Go.OpenSpec.ofChange s with cond := some uptoSmall }

/-- 'domicilelaw32.DeliveryMatchesReference', WHERE WHAT IT READS IS OF BULK AT MOST 1048576: true; the input reads as it did. -/
def deliveryMatchesReferenceUptoRow : OpenClaim := { program := "ytkamkkjijjkfdaa", sum := "ddfc0c96560d987de9b48829c552388b070bed8e877614f20eb52fdc35bb14d1", func := "domicile/domicilelaw32.DeliveryMatchesReference", spec := "deliveryMatchesReference", unfollowed := true, recurses := true, apart := false, narrowed := true }
def DeliveryMatchesReferenceUptoSaid : Prop := deliveryMatchesReferenceUptoRow.holds Try.pinned (OpenSpec.upto deliveryMatchesReferenceSpec)

/-- 'domicilelaw32.DeliveryOnce', WHERE WHAT IT READS IS OF BULK AT MOST 1048576: true; the input reads as it did. -/
def deliveryOnceUptoRow : OpenClaim := { program := "ytkamkkjijjkfdaa", sum := "ddfc0c96560d987de9b48829c552388b070bed8e877614f20eb52fdc35bb14d1", func := "domicile/domicilelaw32.DeliveryOnce", spec := "deliveryOnce", unfollowed := true, recurses := true, apart := false, narrowed := true }
def DeliveryOnceUptoSaid : Prop := deliveryOnceUptoRow.holds Try.pinned (OpenSpec.upto deliveryOnceSpec)

/-- 'domicilelaw32.DeliveryEnds', WHERE WHAT IT READS IS OF BULK AT MOST 1048576: true; the input reads as it did. -/
def deliveryEndsUptoRow : OpenClaim := { program := "ytkamkkjijjkfdaa", sum := "ddfc0c96560d987de9b48829c552388b070bed8e877614f20eb52fdc35bb14d1", func := "domicile/domicilelaw32.DeliveryEnds", spec := "deliveryEnds", unfollowed := true, recurses := true, apart := false, narrowed := true }
def DeliveryEndsUptoSaid : Prop := deliveryEndsUptoRow.holds Try.pinned (OpenSpec.upto deliveryEndsSpec)

/-- 'domicilelaw32.DeliveryValues', WHERE WHAT IT READS IS OF BULK AT MOST 1048576: true; the input reads as it did. -/
def deliveryValuesUptoRow : OpenClaim := { program := "ytkamkkjijjkfdaa", sum := "ddfc0c96560d987de9b48829c552388b070bed8e877614f20eb52fdc35bb14d1", func := "domicile/domicilelaw32.DeliveryValues", spec := "deliveryValues", unfollowed := true, recurses := true, apart := false, narrowed := true }
def DeliveryValuesUptoSaid : Prop := deliveryValuesUptoRow.holds Try.pinned (OpenSpec.upto deliveryValuesSpec)

/-- 'domicilelaw32.DeliveryKnown', WHERE WHAT IT READS IS OF BULK AT MOST 1048576: true; the input reads as it did. -/
def deliveryKnownUptoRow : OpenClaim := { program := "ytkamkkjijjkfdaa", sum := "ddfc0c96560d987de9b48829c552388b070bed8e877614f20eb52fdc35bb14d1", func := "domicile/domicilelaw32.DeliveryKnown", spec := "deliveryKnown", unfollowed := true, recurses := true, apart := false, narrowed := true }
def DeliveryKnownUptoSaid : Prop := deliveryKnownUptoRow.holds Try.pinned (OpenSpec.upto deliveryKnownSpec)

/-- 'domicilelaw32.DeliveryErrors', WHERE WHAT IT READS IS OF BULK AT MOST 1048576: true; the input reads as it did. -/
def deliveryErrorsUptoRow : OpenClaim := { program := "ytkamkkjijjkfdaa", sum := "ddfc0c96560d987de9b48829c552388b070bed8e877614f20eb52fdc35bb14d1", func := "domicile/domicilelaw32.DeliveryErrors", spec := "deliveryErrors", unfollowed := true, recurses := true, apart := false, narrowed := true }
def DeliveryErrorsUptoSaid : Prop := deliveryErrorsUptoRow.holds Try.pinned (OpenSpec.upto deliveryErrorsSpec)

end Rows
end Go.Proofs.Ytkamkkjijjkfdaa
