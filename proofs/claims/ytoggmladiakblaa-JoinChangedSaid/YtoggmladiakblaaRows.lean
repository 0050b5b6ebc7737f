/-
  No cell of these rows narrows 'for every input' (looked for: loops, veiled, ifaces, maps, wideKeys, modest, calm, conditions, laid).
  DERIVED. THE GIVEN ROWS OF THIS SEAT. 6 by the template 'for every input the law returns true; each argument reads behind the call as it read before'; 0 by the template 'total and deterministic' (their statements: YtoggmladiakblaaTotals.lean).
  GIVEN WITH THE SEED: the statements are not yours to turn. If you find one false, say at which input.
  Laid BY PROGRAM, IN A SANDBOX (cutbox-rows.mjs): the forced cells as the released guide's own fill.sh prints them over the translation d2f740bfbead6c02… (all of the seat's roots in one cut). By AI agents, Wed Nov 11 2026. No macro, syntax, notation, axiom, sorry.
-/
import Derived.Test.YtoggmladiakblaaChecked
import GoSem.Claim
import GoSem.ClaimJoined
import GoSem.ClaimMapViews
import Derived.JoinedTies
import Derived.KernelRfl
namespace Go.Proofs.Ytoggmladiakblaa
/- THE CELL 'sum', in the pinned program and in every row, IS THE sha256 OF THE DUMP (.gsa) THAT YtoggmladiakblaaProg.lean LOADS. Nothing in Lean hashes anything: it is a label: what it is worth is what the hold of that sum in a sandbox is worth. -/
noncomputable def Try.pinned : Pinned := { name := "ytoggmladiakblaa", sum := "d2f740bfbead6c02125e39caa86e29e7628c459df507be997c2ac6cc1a577490", checked := Try.checked }
namespace Rows
def none {H : Type} : Left H := { results := [], args := [] }

/-- 'domicilelaw30.JoinMatchesReference': WHATEVER THE INPUT: true; the input reads as it did. -/
def joinMatchesReferenceSpec : ChangeSpec := { name := "joinMatchesReference", fn := fun _ => fun
  | [d1, d2, d3, d4] => { results := [.lit (.bool true)], args := [d1, d2, d3, d4] }
  | _ => none }
def joinMatchesReferenceRow : OpenClaim := { program := "ytoggmladiakblaa", sum := "d2f740bfbead6c02125e39caa86e29e7628c459df507be997c2ac6cc1a577490", func := "domicile/domicilelaw30.JoinMatchesReference", spec := "joinMatchesReference", unfollowed := true, recurses := true, apart := false }
def JoinMatchesReferenceSaid : Prop := joinMatchesReferenceRow.holds Try.pinned (OpenSpec.ofChange joinMatchesReferenceSpec)

/-- ITS FALSE NEIGHBOUR: 'it returns false'. Refute it at one input. -/
def joinMatchesReferenceWrong : ChangeSpec := { name := "joinMatchesReference", fn := fun _ => fun
  | [d1, d2, d3, d4] => { results := [.lit (.bool false)], args := [d1, d2, d3, d4] }
  | _ => none }
def JoinMatchesReferenceWrongFalsely : Prop := joinMatchesReferenceRow.holds Try.pinned (OpenSpec.ofChange joinMatchesReferenceWrong)

/-- 'domicilelaw30.JoinAgrees': WHATEVER THE INPUT: true; the input reads as it did. -/
def joinAgreesSpec : ChangeSpec := { name := "joinAgrees", fn := fun _ => fun
  | [d1, d2, d3] => { results := [.lit (.bool true)], args := [d1, d2, d3] }
  | _ => none }
def joinAgreesRow : OpenClaim := { program := "ytoggmladiakblaa", sum := "d2f740bfbead6c02125e39caa86e29e7628c459df507be997c2ac6cc1a577490", func := "domicile/domicilelaw30.JoinAgrees", spec := "joinAgrees", unfollowed := true, recurses := true, apart := false }
def JoinAgreesSaid : Prop := joinAgreesRow.holds Try.pinned (OpenSpec.ofChange joinAgreesSpec)

/-- ITS FALSE NEIGHBOUR: 'it returns false'. Refute it at one input. -/
def joinAgreesWrong : ChangeSpec := { name := "joinAgrees", fn := fun _ => fun
  | [d1, d2, d3] => { results := [.lit (.bool false)], args := [d1, d2, d3] }
  | _ => none }
def JoinAgreesWrongFalsely : Prop := joinAgreesRow.holds Try.pinned (OpenSpec.ofChange joinAgreesWrong)

/-- 'domicilelaw30.JoinCodes': WHATEVER THE INPUT: true; the input reads as it did. -/
def joinCodesSpec : ChangeSpec := { name := "joinCodes", fn := fun _ => fun
  | [d1, d2, d3, d4] => { results := [.lit (.bool true)], args := [d1, d2, d3, d4] }
  | _ => none }
def joinCodesRow : OpenClaim := { program := "ytoggmladiakblaa", sum := "d2f740bfbead6c02125e39caa86e29e7628c459df507be997c2ac6cc1a577490", func := "domicile/domicilelaw30.JoinCodes", spec := "joinCodes", unfollowed := true, recurses := true, apart := false }
def JoinCodesSaid : Prop := joinCodesRow.holds Try.pinned (OpenSpec.ofChange joinCodesSpec)

/-- ITS FALSE NEIGHBOUR: 'it returns false'. Refute it at one input. -/
def joinCodesWrong : ChangeSpec := { name := "joinCodes", fn := fun _ => fun
  | [d1, d2, d3, d4] => { results := [.lit (.bool false)], args := [d1, d2, d3, d4] }
  | _ => none }
def JoinCodesWrongFalsely : Prop := joinCodesRow.holds Try.pinned (OpenSpec.ofChange joinCodesWrong)

/-- 'domicilelaw30.JoinChanged': WHATEVER THE INPUT: true; the input reads as it did. -/
def joinChangedSpec : ChangeSpec := { name := "joinChanged", fn := fun _ => fun
  | [d1, d2, d3, d4, d5] => { results := [.lit (.bool true)], args := [d1, d2, d3, d4, d5] }
  | _ => none }
def joinChangedRow : OpenClaim := { program := "ytoggmladiakblaa", sum := "d2f740bfbead6c02125e39caa86e29e7628c459df507be997c2ac6cc1a577490", func := "domicile/domicilelaw30.JoinChanged", spec := "joinChanged", unfollowed := true, recurses := true, apart := false }
def JoinChangedSaid : Prop := joinChangedRow.holds Try.pinned (OpenSpec.ofChange joinChangedSpec)

/-- ITS FALSE NEIGHBOUR: 'it returns false'. Refute it at one input. -/
def joinChangedWrong : ChangeSpec := { name := "joinChanged", fn := fun _ => fun
  | [d1, d2, d3, d4, d5] => { results := [.lit (.bool false)], args := [d1, d2, d3, d4, d5] }
  | _ => none }
def JoinChangedWrongFalsely : Prop := joinChangedRow.holds Try.pinned (OpenSpec.ofChange joinChangedWrong)

/-- 'domicilelaw30.JoinSides': WHATEVER THE INPUT: true; the input reads as it did. -/
def joinSidesSpec : ChangeSpec := { name := "joinSides", fn := fun _ => fun
  | [d1, d2] => { results := [.lit (.bool true)], args := [d1, d2] }
  | _ => none }
def joinSidesRow : OpenClaim := { program := "ytoggmladiakblaa", sum := "d2f740bfbead6c02125e39caa86e29e7628c459df507be997c2ac6cc1a577490", func := "domicile/domicilelaw30.JoinSides", spec := "joinSides", unfollowed := true, recurses := true, apart := false }
def JoinSidesSaid : Prop := joinSidesRow.holds Try.pinned (OpenSpec.ofChange joinSidesSpec)

/-- ITS FALSE NEIGHBOUR: 'it returns false'. Refute it at one input. -/
def joinSidesWrong : ChangeSpec := { name := "joinSides", fn := fun _ => fun
  | [d1, d2] => { results := [.lit (.bool false)], args := [d1, d2] }
  | _ => none }
def JoinSidesWrongFalsely : Prop := joinSidesRow.holds Try.pinned (OpenSpec.ofChange joinSidesWrong)

/-- 'domicilelaw30.JoinDirection': WHATEVER THE INPUT: true; the input reads as it did. -/
def joinDirectionSpec : ChangeSpec := { name := "joinDirection", fn := fun _ => fun
  | [d1, d2, d3] => { results := [.lit (.bool true)], args := [d1, d2, d3] }
  | _ => none }
def joinDirectionRow : OpenClaim := { program := "ytoggmladiakblaa", sum := "d2f740bfbead6c02125e39caa86e29e7628c459df507be997c2ac6cc1a577490", func := "domicile/domicilelaw30.JoinDirection", spec := "joinDirection", unfollowed := true, recurses := true, apart := false }
def JoinDirectionSaid : Prop := joinDirectionRow.holds Try.pinned (OpenSpec.ofChange joinDirectionSpec)

/-- ITS FALSE NEIGHBOUR: 'it returns false'. Refute it at one input. -/
def joinDirectionWrong : ChangeSpec := { name := "joinDirection", fn := fun _ => fun
  | [d1, d2, d3] => { results := [.lit (.bool false)], args := [d1, d2, d3] }
  | _ => none }
def JoinDirectionWrongFalsely : Prop := joinDirectionRow.holds Try.pinned (OpenSpec.ofChange joinDirectionWrong)

/- THE SECOND FORM. 'bulk': how many values and letters a reading holds, each counted each time it is reached (what is shared counts as often as it is met; a slice's spare places count too). A statement '..UptoSaid' is the law's where the arguments, and the package variables that the reading takes, are together of bulk at most 1048576: NARROWER than '..Said'. Prove '..Said' where nothing that the law and all that it calls make is longer than what came in: it says more and counts as full. Else prove '..UptoSaid'. A law counts once. -/
mutual
def uptoBulk {H : Type} : DataW H → Nat
  | .lit (.string bytes) => bytes.length + 1
  | .lit _ => 1
  | .nil => 1
  | .ptr d => uptoBulk d + 1
  | .slice elems spare => uptoBulkAll elems + uptoBulkAll spare + 1
  | .agg parts => uptoBulkAll parts + 1
  | .iface _ d => uptoBulk d + 1
  | .map entries => uptoBulkEntries entries + 1
  | .held _ => 1
def uptoBulkAll {H : Type} : List (DataW H) → Nat
  | [] => 0
  | d :: r => uptoBulk d + uptoBulkAll r
def uptoBulkEntries {H : Type} : List (Lit × DataW H) → Nat
  | [] => 0
  | x :: r => uptoBulkEntry x + uptoBulkEntries r
def uptoBulkEntry {H : Type} : Lit × DataW H → Nat
  | (.string bytes, d) => bytes.length + uptoBulk d + 1
  | (_, d) => uptoBulk d + 1
 end
def uptoSmall : (H : Type) → List (DataW H) → Bool := fun _ ds => decide (uptoBulkAll ds ≤ 1048576)
def OpenSpec.upto (s : _root_.Go.ChangeSpec) : _root_.Go.OpenSpec := { _root_.Go.OpenSpec.ofChange s with cond := some uptoSmall }

/-- 'domicilelaw30.JoinMatchesReference', WHERE WHAT IT READS IS OF BULK AT MOST 1048576: true; the input reads as it did. -/
def joinMatchesReferenceUptoRow : OpenClaim := { program := "ytoggmladiakblaa", sum := "d2f740bfbead6c02125e39caa86e29e7628c459df507be997c2ac6cc1a577490", func := "domicile/domicilelaw30.JoinMatchesReference", spec := "joinMatchesReference", unfollowed := true, recurses := true, apart := false, narrowed := true }
def JoinMatchesReferenceUptoSaid : Prop := joinMatchesReferenceUptoRow.holds Try.pinned (OpenSpec.upto joinMatchesReferenceSpec)

/-- 'domicilelaw30.JoinAgrees', WHERE WHAT IT READS IS OF BULK AT MOST 1048576: true; the input reads as it did. -/
def joinAgreesUptoRow : OpenClaim := { program := "ytoggmladiakblaa", sum := "d2f740bfbead6c02125e39caa86e29e7628c459df507be997c2ac6cc1a577490", func := "domicile/domicilelaw30.JoinAgrees", spec := "joinAgrees", unfollowed := true, recurses := true, apart := false, narrowed := true }
def JoinAgreesUptoSaid : Prop := joinAgreesUptoRow.holds Try.pinned (OpenSpec.upto joinAgreesSpec)

/-- 'domicilelaw30.JoinCodes', WHERE WHAT IT READS IS OF BULK AT MOST 1048576: true; the input reads as it did. -/
def joinCodesUptoRow : OpenClaim := { program := "ytoggmladiakblaa", sum := "d2f740bfbead6c02125e39caa86e29e7628c459df507be997c2ac6cc1a577490", func := "domicile/domicilelaw30.JoinCodes", spec := "joinCodes", unfollowed := true, recurses := true, apart := false, narrowed := true }
def JoinCodesUptoSaid : Prop := joinCodesUptoRow.holds Try.pinned (OpenSpec.upto joinCodesSpec)

/-- 'domicilelaw30.JoinChanged', WHERE WHAT IT READS IS OF BULK AT MOST 1048576: true; the input reads as it did. -/
def joinChangedUptoRow : OpenClaim := { program := "ytoggmladiakblaa", sum := "d2f740bfbead6c02125e39caa86e29e7628c459df507be997c2ac6cc1a577490", func := "domicile/domicilelaw30.JoinChanged", spec := "joinChanged", unfollowed := true, recurses := true, apart := false, narrowed := true }
def JoinChangedUptoSaid : Prop := joinChangedUptoRow.holds Try.pinned (OpenSpec.upto joinChangedSpec)

/-- 'domicilelaw30.JoinSides', WHERE WHAT IT READS IS OF BULK AT MOST 1048576: true; the input reads as it did. -/
def joinSidesUptoRow : OpenClaim := { program := "ytoggmladiakblaa", sum := "d2f740bfbead6c02125e39caa86e29e7628c459df507be997c2ac6cc1a577490", func := "domicile/domicilelaw30.JoinSides", spec := "joinSides", unfollowed := true, recurses := true, apart := false, narrowed := true }
def JoinSidesUptoSaid : Prop := joinSidesUptoRow.holds Try.pinned (OpenSpec.upto joinSidesSpec)

/-- 'domicilelaw30.JoinDirection', WHERE WHAT IT READS IS OF BULK AT MOST 1048576: true; the input reads as it did. -/
def joinDirectionUptoRow : OpenClaim := { program := "ytoggmladiakblaa", sum := "d2f740bfbead6c02125e39caa86e29e7628c459df507be997c2ac6cc1a577490", func := "domicile/domicilelaw30.JoinDirection", spec := "joinDirection", unfollowed := true, recurses := true, apart := false, narrowed := true }
def JoinDirectionUptoSaid : Prop := joinDirectionUptoRow.holds Try.pinned (OpenSpec.upto joinDirectionSpec)

end Rows
end Go.Proofs.Ytoggmladiakblaa
