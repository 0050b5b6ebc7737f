/-
  No cell of these rows narrows 'for every input' (looked for: loops, veiled, ifaces, maps, wideKeys, modest, calm, conditions, laid).
  DERIVED. THE GIVEN ROWS OF THIS SEAT. 6 by the template 'for every input the law returns true; each argument reads behind the call as it read before'; 0 by the template 'total and deterministic' (their statements: YteodafhgfcbdpaaTotals.lean).
  GIVEN WITH THE SEED: the statements are not yours to turn. If you find one false, say at which input.
  Laid BY PROGRAM, IN A SANDBOX (cutbox-rows.mjs): the forced cells as the released guide's own fill.sh prints them over the translation 788f6b8f1c5520ab… (all of the seat's roots in one cut). By AI agents, Wed Nov 11 2026. No macro, syntax, notation, axiom, sorry.
-/
import Derived.Test.YteodafhgfcbdpaaChecked
import GoSem.Claim
import GoSem.ClaimJoined
import GoSem.ClaimMapViews
import Derived.JoinedTies
import Derived.KernelRfl
namespace Go.Proofs.Yteodafhgfcbdpaa
/- THE CELL 'sum', in the pinned program and in every row, IS THE sha256 OF THE DUMP (.gsa) THAT YteodafhgfcbdpaaProg.lean LOADS. Nothing in Lean hashes anything: it is a label: what it is worth is what the hold of that sum in a sandbox is worth. -/
noncomputable def Try.pinned : Pinned := { name := "yteodafhgfcbdpaa", sum := "788f6b8f1c5520abafe6c4adf4b6d1351ec0e40cf52a9a35f2a41911692f4bce", checked := Try.checked }
namespace Rows
def none {H : Type} : Left H := { results := [], args := [] }

/-- 'domicilelaw31.UpdateMatchesReference': WHATEVER THE INPUT: true; the input reads as it did. -/
def updateMatchesReferenceSpec : ChangeSpec := { name := "updateMatchesReference", fn := fun _ => fun
  | [d1, d2, d3, d4, d5, d6, d7] => { results := [.lit (.bool true)], args := [d1, d2, d3, d4, d5, d6, d7] }
  | _ => none }
def updateMatchesReferenceRow : OpenClaim := { program := "yteodafhgfcbdpaa", sum := "788f6b8f1c5520abafe6c4adf4b6d1351ec0e40cf52a9a35f2a41911692f4bce", func := "domicile/domicilelaw31.UpdateMatchesReference", spec := "updateMatchesReference", unfollowed := true, recurses := true, apart := false }
def UpdateMatchesReferenceSaid : Prop := updateMatchesReferenceRow.holds Try.pinned (OpenSpec.ofChange updateMatchesReferenceSpec)

/-- ITS FALSE NEIGHBOUR: 'it returns false'. Refute it at one input. -/
def updateMatchesReferenceWrong : ChangeSpec := { name := "updateMatchesReference", fn := fun _ => fun
  | [d1, d2, d3, d4, d5, d6, d7] => { results := [.lit (.bool false)], args := [d1, d2, d3, d4, d5, d6, d7] }
  | _ => none }
def UpdateMatchesReferenceWrongFalsely : Prop := updateMatchesReferenceRow.holds Try.pinned (OpenSpec.ofChange updateMatchesReferenceWrong)

/-- 'domicilelaw31.UpdateTransfers': WHATEVER THE INPUT: true; the input reads as it did. -/
def updateTransfersSpec : ChangeSpec := { name := "updateTransfers", fn := fun _ => fun
  | [d1, d2, d3, d4, d5] => { results := [.lit (.bool true)], args := [d1, d2, d3, d4, d5] }
  | _ => none }
def updateTransfersRow : OpenClaim := { program := "yteodafhgfcbdpaa", sum := "788f6b8f1c5520abafe6c4adf4b6d1351ec0e40cf52a9a35f2a41911692f4bce", func := "domicile/domicilelaw31.UpdateTransfers", spec := "updateTransfers", unfollowed := true, recurses := true, apart := false }
def UpdateTransfersSaid : Prop := updateTransfersRow.holds Try.pinned (OpenSpec.ofChange updateTransfersSpec)

/-- ITS FALSE NEIGHBOUR: 'it returns false'. Refute it at one input. -/
def updateTransfersWrong : ChangeSpec := { name := "updateTransfers", fn := fun _ => fun
  | [d1, d2, d3, d4, d5] => { results := [.lit (.bool false)], args := [d1, d2, d3, d4, d5] }
  | _ => none }
def UpdateTransfersWrongFalsely : Prop := updateTransfersRow.holds Try.pinned (OpenSpec.ofChange updateTransfersWrong)

/-- 'domicilelaw31.UpdateForged': WHATEVER THE INPUT: true; the input reads as it did. -/
def updateForgedSpec : ChangeSpec := { name := "updateForged", fn := fun _ => fun
  | [d1, d2, d3, d4, d5] => { results := [.lit (.bool true)], args := [d1, d2, d3, d4, d5] }
  | _ => none }
def updateForgedRow : OpenClaim := { program := "yteodafhgfcbdpaa", sum := "788f6b8f1c5520abafe6c4adf4b6d1351ec0e40cf52a9a35f2a41911692f4bce", func := "domicile/domicilelaw31.UpdateForged", spec := "updateForged", unfollowed := true, recurses := true, apart := false }
def UpdateForgedSaid : Prop := updateForgedRow.holds Try.pinned (OpenSpec.ofChange updateForgedSpec)

/-- ITS FALSE NEIGHBOUR: 'it returns false'. Refute it at one input. -/
def updateForgedWrong : ChangeSpec := { name := "updateForged", fn := fun _ => fun
  | [d1, d2, d3, d4, d5] => { results := [.lit (.bool false)], args := [d1, d2, d3, d4, d5] }
  | _ => none }
def UpdateForgedWrongFalsely : Prop := updateForgedRow.holds Try.pinned (OpenSpec.ofChange updateForgedWrong)

/-- 'domicilelaw31.UpdateManifests': WHATEVER THE INPUT: true; the input reads as it did. -/
def updateManifestsSpec : ChangeSpec := { name := "updateManifests", fn := fun _ => fun
  | [d1, d2, d3, d4, d5, d6, d7] => { results := [.lit (.bool true)], args := [d1, d2, d3, d4, d5, d6, d7] }
  | _ => none }
def updateManifestsRow : OpenClaim := { program := "yteodafhgfcbdpaa", sum := "788f6b8f1c5520abafe6c4adf4b6d1351ec0e40cf52a9a35f2a41911692f4bce", func := "domicile/domicilelaw31.UpdateManifests", spec := "updateManifests", unfollowed := true, recurses := true, apart := false }
def UpdateManifestsSaid : Prop := updateManifestsRow.holds Try.pinned (OpenSpec.ofChange updateManifestsSpec)

/-- ITS FALSE NEIGHBOUR: 'it returns false'. Refute it at one input. -/
def updateManifestsWrong : ChangeSpec := { name := "updateManifests", fn := fun _ => fun
  | [d1, d2, d3, d4, d5, d6, d7] => { results := [.lit (.bool false)], args := [d1, d2, d3, d4, d5, d6, d7] }
  | _ => none }
def UpdateManifestsWrongFalsely : Prop := updateManifestsRow.holds Try.pinned (OpenSpec.ofChange updateManifestsWrong)

/-- 'domicilelaw31.UpdateVersions': WHATEVER THE INPUT: true; the input reads as it did. -/
def updateVersionsSpec : ChangeSpec := { name := "updateVersions", fn := fun _ => fun
  | [d1, d2, d3, d4, d5] => { results := [.lit (.bool true)], args := [d1, d2, d3, d4, d5] }
  | _ => none }
def updateVersionsRow : OpenClaim := { program := "yteodafhgfcbdpaa", sum := "788f6b8f1c5520abafe6c4adf4b6d1351ec0e40cf52a9a35f2a41911692f4bce", func := "domicile/domicilelaw31.UpdateVersions", spec := "updateVersions", unfollowed := true, recurses := true, apart := false }
def UpdateVersionsSaid : Prop := updateVersionsRow.holds Try.pinned (OpenSpec.ofChange updateVersionsSpec)

/-- ITS FALSE NEIGHBOUR: 'it returns false'. Refute it at one input. -/
def updateVersionsWrong : ChangeSpec := { name := "updateVersions", fn := fun _ => fun
  | [d1, d2, d3, d4, d5] => { results := [.lit (.bool false)], args := [d1, d2, d3, d4, d5] }
  | _ => none }
def UpdateVersionsWrongFalsely : Prop := updateVersionsRow.holds Try.pinned (OpenSpec.ofChange updateVersionsWrong)

/-- 'domicilelaw31.UpdateErrors': WHATEVER THE INPUT: true; the input reads as it did. -/
def updateErrorsSpec : ChangeSpec := { name := "updateErrors", fn := fun _ => fun
  | [d1, d2] => { results := [.lit (.bool true)], args := [d1, d2] }
  | _ => none }
def updateErrorsRow : OpenClaim := { program := "yteodafhgfcbdpaa", sum := "788f6b8f1c5520abafe6c4adf4b6d1351ec0e40cf52a9a35f2a41911692f4bce", func := "domicile/domicilelaw31.UpdateErrors", spec := "updateErrors", unfollowed := true, recurses := true, apart := false }
def UpdateErrorsSaid : Prop := updateErrorsRow.holds Try.pinned (OpenSpec.ofChange updateErrorsSpec)

/-- ITS FALSE NEIGHBOUR: 'it returns false'. Refute it at one input. -/
def updateErrorsWrong : ChangeSpec := { name := "updateErrors", fn := fun _ => fun
  | [d1, d2] => { results := [.lit (.bool false)], args := [d1, d2] }
  | _ => none }
def UpdateErrorsWrongFalsely : Prop := updateErrorsRow.holds Try.pinned (OpenSpec.ofChange updateErrorsWrong)

/- THE SECOND FORM. 'bulk': how many values and letters a reading holds, each counted each time it is reached (what is shared counts as often as it is met; a slice's spare places count too). A statement '..UptoSaid' is the law's where the arguments, and the package variables that the reading takes, are together of bulk at most 1048576: NARROWER than '..Said'. Prove '..Said' where nothing that the law and all that it calls make is longer than what came in: it says more and counts as full. Else prove '..UptoSaid'. A law counts once. -/
mutual
def uptoBulk {H : Type} : DataW H → Nat
  | .lit (.string bytes) => bytes.length + 1
  | .lit _ => 1
  | .nil => 1
  | .ptr d => uptoBulk d + 1
  | .slice elems spare => uptoBulkAll elems + uptoBulkAll spare + 1
  | .agg parts => uptoBulkAll parts + 1
  | .iface _ d => uptoBulk d + 1
  | .map entries => uptoBulkEntries entries + 1
  | .held _ => 1
def uptoBulkAll {H : Type} : List (DataW H) → Nat
  | [] => 0
  | d :: r => uptoBulk d + uptoBulkAll r
def uptoBulkEntries {H : Type} : List (Lit × DataW H) → Nat
  | [] => 0
  | x :: r => uptoBulkEntry x + uptoBulkEntries r
def uptoBulkEntry {H : Type} : Lit × DataW H → Nat
  | (.string bytes, d) => bytes.length + uptoBulk d + 1
  | (_, d) => uptoBulk d + 1
 end
def uptoSmall : (H : Type) → List (DataW H) → Bool := fun _ ds => decide (uptoBulkAll ds ≤ 1048576)
def OpenSpec.upto (s : _root_.Go.ChangeSpec) : _root_.Go.OpenSpec := { _root_.Go.OpenSpec.ofChange s with cond := some uptoSmall }

/-- 'domicilelaw31.UpdateMatchesReference', WHERE WHAT IT READS IS OF BULK AT MOST 1048576: true; the input reads as it did. -/
def updateMatchesReferenceUptoRow : OpenClaim := { program := "yteodafhgfcbdpaa", sum := "788f6b8f1c5520abafe6c4adf4b6d1351ec0e40cf52a9a35f2a41911692f4bce", func := "domicile/domicilelaw31.UpdateMatchesReference", spec := "updateMatchesReference", unfollowed := true, recurses := true, apart := false, narrowed := true }
def UpdateMatchesReferenceUptoSaid : Prop := updateMatchesReferenceUptoRow.holds Try.pinned (OpenSpec.upto updateMatchesReferenceSpec)

/-- 'domicilelaw31.UpdateTransfers', WHERE WHAT IT READS IS OF BULK AT MOST 1048576: true; the input reads as it did. -/
def updateTransfersUptoRow : OpenClaim := { program := "yteodafhgfcbdpaa", sum := "788f6b8f1c5520abafe6c4adf4b6d1351ec0e40cf52a9a35f2a41911692f4bce", func := "domicile/domicilelaw31.UpdateTransfers", spec := "updateTransfers", unfollowed := true, recurses := true, apart := false, narrowed := true }
def UpdateTransfersUptoSaid : Prop := updateTransfersUptoRow.holds Try.pinned (OpenSpec.upto updateTransfersSpec)

/-- 'domicilelaw31.UpdateForged', WHERE WHAT IT READS IS OF BULK AT MOST 1048576: true; the input reads as it did. -/
def updateForgedUptoRow : OpenClaim := { program := "yteodafhgfcbdpaa", sum := "788f6b8f1c5520abafe6c4adf4b6d1351ec0e40cf52a9a35f2a41911692f4bce", func := "domicile/domicilelaw31.UpdateForged", spec := "updateForged", unfollowed := true, recurses := true, apart := false, narrowed := true }
def UpdateForgedUptoSaid : Prop := updateForgedUptoRow.holds Try.pinned (OpenSpec.upto updateForgedSpec)

/-- 'domicilelaw31.UpdateManifests', WHERE WHAT IT READS IS OF BULK AT MOST 1048576: true; the input reads as it did. -/
def updateManifestsUptoRow : OpenClaim := { program := "yteodafhgfcbdpaa", sum := "788f6b8f1c5520abafe6c4adf4b6d1351ec0e40cf52a9a35f2a41911692f4bce", func := "domicile/domicilelaw31.UpdateManifests", spec := "updateManifests", unfollowed := true, recurses := true, apart := false, narrowed := true }
def UpdateManifestsUptoSaid : Prop := updateManifestsUptoRow.holds Try.pinned (OpenSpec.upto updateManifestsSpec)

/-- 'domicilelaw31.UpdateVersions', WHERE WHAT IT READS IS OF BULK AT MOST 1048576: true; the input reads as it did. -/
def updateVersionsUptoRow : OpenClaim := { program := "yteodafhgfcbdpaa", sum := "788f6b8f1c5520abafe6c4adf4b6d1351ec0e40cf52a9a35f2a41911692f4bce", func := "domicile/domicilelaw31.UpdateVersions", spec := "updateVersions", unfollowed := true, recurses := true, apart := false, narrowed := true }
def UpdateVersionsUptoSaid : Prop := updateVersionsUptoRow.holds Try.pinned (OpenSpec.upto updateVersionsSpec)

/-- 'domicilelaw31.UpdateErrors', WHERE WHAT IT READS IS OF BULK AT MOST 1048576: true; the input reads as it did. -/
def updateErrorsUptoRow : OpenClaim := { program := "yteodafhgfcbdpaa", sum := "788f6b8f1c5520abafe6c4adf4b6d1351ec0e40cf52a9a35f2a41911692f4bce", func := "domicile/domicilelaw31.UpdateErrors", spec := "updateErrors", unfollowed := true, recurses := true, apart := false, narrowed := true }
def UpdateErrorsUptoSaid : Prop := updateErrorsUptoRow.holds Try.pinned (OpenSpec.upto updateErrorsSpec)

end Rows
end Go.Proofs.Yteodafhgfcbdpaa
