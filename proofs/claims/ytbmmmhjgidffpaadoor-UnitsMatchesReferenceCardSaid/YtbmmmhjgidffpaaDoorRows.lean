/-
  NARROWER THAN 'FOR EVERY INPUT', by the rows' own cells (each row's printed sentence says how): UnitsMatchesReference: laid · UnitsBase: laid · UnitsOrder: laid · UnitsCanonical: laid · UnitsSums: laid · UnitsSeconds: laid · UnitsEnergy: laid.
  DERIVED. THE GIVEN ROWS OF THIS SEAT. 7 by the template 'for every input the law returns true; each argument reads behind the call as it read before'; 0 by the template 'total and deterministic' (their statements: YtbmmmhjgidffpaaDoorTotals.lean).
  GIVEN WITH THE SEED: the statements are not yours to turn. If you find one false, say at which input.
  Laid BY PROGRAM, IN A SANDBOX (cutbox-rows.mjs): the forced cells as the released guide's own fill.sh prints them over the translation f377c85ccf8d4672… (all of the seat's roots in one cut). By AI agents, Wed Nov 11 2026. No macro, syntax, notation, axiom, sorry.
-/
import Derived.Test.YtbmmmhjgidffpaaDoorChecked
import GoSem.Claim
import GoSem.ClaimJoined
import GoSem.ClaimMapViews
import Derived.JoinedTies
import Derived.KernelRfl
namespace Go.Proofs.YtbmmmhjgidffpaaDoor
/- THE CELL 'sum', in the pinned program and in every row, IS THE sha256 OF THE DUMP (.gsa) THAT YtbmmmhjgidffpaaDoorProg.lean LOADS. Nothing in Lean hashes anything: it is a label: what it is worth is what the hold of that sum in a sandbox is worth. -/
noncomputable def Tryd.pinned : Pinned := { name := "ytbmmmhjgidffpaadoor", sum := "f377c85ccf8d46722884936d934449fb6d8226b6e9b6b7b3c5e74efbd68bf90c", checked := Tryd.checked }
namespace Rows
def none {H : Type} : Left H := { results := [], args := [] }

/- WHAT THE LISTED PACKAGE-LEVEL VARIABLES READ AS WHEN THE CALL BEGINS. Each datum BY PROGRAM (the guide's laid-datum.mjs) off the statement by which the dump's own 'gosem.cut.vars' lays the variable. In a bare row this is a premise. The card (YtbmmmhjgidffpaaDoorCards.lean) ties it to the program's text. -/
def laid_domicile_units_allUnits {H : Type} : DataW H := .agg [.agg [.lit (.string []), .lit (.int .i64 1), .lit (.int .i64 1)], .agg [.lit (.string [67]), .lit (.int .i64 2), .lit (.int .i64 1)], .agg [.lit (.string [104]), .lit (.int .i64 3), .lit (.int .i64 3600)], .agg [.lit (.string [109, 105, 110]), .lit (.int .i64 3), .lit (.int .i64 60)], .agg [.lit (.string [115]), .lit (.int .i64 3), .lit (.int .i64 1)], .agg [.lit (.string [107, 87]), .lit (.int .i64 4), .lit (.int .i64 1000)], .agg [.lit (.string [87]), .lit (.int .i64 4), .lit (.int .i64 1)], .agg [.lit (.string [107, 87, 104]), .lit (.int .i64 5), .lit (.int .i64 1000)], .agg [.lit (.string [87, 104]), .lit (.int .i64 5), .lit (.int .i64 1)], .agg [.lit (.string [108, 120]), .lit (.int .i64 6), .lit (.int .i64 1)], .agg [.lit (.string [37]), .lit (.int .i64 7), .lit (.int .i64 1)]]

/-- 'domicilelaw02.UnitsMatchesReference': WHATEVER THE INPUT: true; the input reads as it did. -/
def unitsMatchesReferenceSpec : ChangeSpec := { name := "unitsMatchesReference", fn := fun _ => fun
  | [d1, d2, d3, d4] => { results := [.lit (.bool true)], args := [d1, d2, d3, d4] }
  | _ => none }
def unitsMatchesReferenceRow : OpenClaim := { program := "ytbmmmhjgidffpaadoor", sum := "f377c85ccf8d46722884936d934449fb6d8226b6e9b6b7b3c5e74efbd68bf90c", func := "domicile/domicilelaw02.UnitsMatchesReference", spec := "unitsMatchesReference", unfollowed := true, recurses := true, named := ["domicile/units.allUnits"], apart := false, laid := [("domicile/units.allUnits", laid_domicile_units_allUnits)] }
def UnitsMatchesReferenceSaid : Prop := unitsMatchesReferenceRow.holds Tryd.pinned (OpenSpec.ofChange unitsMatchesReferenceSpec)

/-- ITS FALSE NEIGHBOUR: 'it returns false'. Refute it at one input. -/
def unitsMatchesReferenceWrong : ChangeSpec := { name := "unitsMatchesReference", fn := fun _ => fun
  | [d1, d2, d3, d4] => { results := [.lit (.bool false)], args := [d1, d2, d3, d4] }
  | _ => none }
def UnitsMatchesReferenceWrongFalsely : Prop := unitsMatchesReferenceRow.holds Tryd.pinned (OpenSpec.ofChange unitsMatchesReferenceWrong)

/-- 'domicilelaw02.UnitsBase': WHATEVER THE INPUT: true; the input reads as it did. -/
def unitsBaseSpec : ChangeSpec := { name := "unitsBase", fn := fun _ => fun
  | [d1, d2, d3] => { results := [.lit (.bool true)], args := [d1, d2, d3] }
  | _ => none }
def unitsBaseRow : OpenClaim := { program := "ytbmmmhjgidffpaadoor", sum := "f377c85ccf8d46722884936d934449fb6d8226b6e9b6b7b3c5e74efbd68bf90c", func := "domicile/domicilelaw02.UnitsBase", spec := "unitsBase", unfollowed := true, recurses := true, named := ["domicile/units.allUnits"], apart := false, laid := [("domicile/units.allUnits", laid_domicile_units_allUnits)] }
def UnitsBaseSaid : Prop := unitsBaseRow.holds Tryd.pinned (OpenSpec.ofChange unitsBaseSpec)

/-- ITS FALSE NEIGHBOUR: 'it returns false'. Refute it at one input. -/
def unitsBaseWrong : ChangeSpec := { name := "unitsBase", fn := fun _ => fun
  | [d1, d2, d3] => { results := [.lit (.bool false)], args := [d1, d2, d3] }
  | _ => none }
def UnitsBaseWrongFalsely : Prop := unitsBaseRow.holds Tryd.pinned (OpenSpec.ofChange unitsBaseWrong)

/-- 'domicilelaw02.UnitsOrder': WHATEVER THE INPUT: true; the input reads as it did. -/
def unitsOrderSpec : ChangeSpec := { name := "unitsOrder", fn := fun _ => fun
  | [d1, d2, d3] => { results := [.lit (.bool true)], args := [d1, d2, d3] }
  | _ => none }
def unitsOrderRow : OpenClaim := { program := "ytbmmmhjgidffpaadoor", sum := "f377c85ccf8d46722884936d934449fb6d8226b6e9b6b7b3c5e74efbd68bf90c", func := "domicile/domicilelaw02.UnitsOrder", spec := "unitsOrder", unfollowed := true, recurses := true, named := ["domicile/units.allUnits"], apart := false, laid := [("domicile/units.allUnits", laid_domicile_units_allUnits)] }
def UnitsOrderSaid : Prop := unitsOrderRow.holds Tryd.pinned (OpenSpec.ofChange unitsOrderSpec)

/-- ITS FALSE NEIGHBOUR: 'it returns false'. Refute it at one input. -/
def unitsOrderWrong : ChangeSpec := { name := "unitsOrder", fn := fun _ => fun
  | [d1, d2, d3] => { results := [.lit (.bool false)], args := [d1, d2, d3] }
  | _ => none }
def UnitsOrderWrongFalsely : Prop := unitsOrderRow.holds Tryd.pinned (OpenSpec.ofChange unitsOrderWrong)

/-- 'domicilelaw02.UnitsCanonical': WHATEVER THE INPUT: true; the input reads as it did. -/
def unitsCanonicalSpec : ChangeSpec := { name := "unitsCanonical", fn := fun _ => fun
  | [d1, d2] => { results := [.lit (.bool true)], args := [d1, d2] }
  | _ => none }
def unitsCanonicalRow : OpenClaim := { program := "ytbmmmhjgidffpaadoor", sum := "f377c85ccf8d46722884936d934449fb6d8226b6e9b6b7b3c5e74efbd68bf90c", func := "domicile/domicilelaw02.UnitsCanonical", spec := "unitsCanonical", unfollowed := true, recurses := true, named := ["domicile/units.allUnits"], apart := false, laid := [("domicile/units.allUnits", laid_domicile_units_allUnits)] }
def UnitsCanonicalSaid : Prop := unitsCanonicalRow.holds Tryd.pinned (OpenSpec.ofChange unitsCanonicalSpec)

/-- ITS FALSE NEIGHBOUR: 'it returns false'. Refute it at one input. -/
def unitsCanonicalWrong : ChangeSpec := { name := "unitsCanonical", fn := fun _ => fun
  | [d1, d2] => { results := [.lit (.bool false)], args := [d1, d2] }
  | _ => none }
def UnitsCanonicalWrongFalsely : Prop := unitsCanonicalRow.holds Tryd.pinned (OpenSpec.ofChange unitsCanonicalWrong)

/-- 'domicilelaw02.UnitsSums': WHATEVER THE INPUT: true; the input reads as it did. -/
def unitsSumsSpec : ChangeSpec := { name := "unitsSums", fn := fun _ => fun
  | [d1, d2, d3] => { results := [.lit (.bool true)], args := [d1, d2, d3] }
  | _ => none }
def unitsSumsRow : OpenClaim := { program := "ytbmmmhjgidffpaadoor", sum := "f377c85ccf8d46722884936d934449fb6d8226b6e9b6b7b3c5e74efbd68bf90c", func := "domicile/domicilelaw02.UnitsSums", spec := "unitsSums", unfollowed := true, recurses := true, named := ["domicile/units.allUnits"], apart := false, laid := [("domicile/units.allUnits", laid_domicile_units_allUnits)] }
def UnitsSumsSaid : Prop := unitsSumsRow.holds Tryd.pinned (OpenSpec.ofChange unitsSumsSpec)

/-- ITS FALSE NEIGHBOUR: 'it returns false'. Refute it at one input. -/
def unitsSumsWrong : ChangeSpec := { name := "unitsSums", fn := fun _ => fun
  | [d1, d2, d3] => { results := [.lit (.bool false)], args := [d1, d2, d3] }
  | _ => none }
def UnitsSumsWrongFalsely : Prop := unitsSumsRow.holds Tryd.pinned (OpenSpec.ofChange unitsSumsWrong)

/-- 'domicilelaw02.UnitsSeconds': WHATEVER THE INPUT: true; the input reads as it did. -/
def unitsSecondsSpec : ChangeSpec := { name := "unitsSeconds", fn := fun _ => fun
  | [d1, d2, d3] => { results := [.lit (.bool true)], args := [d1, d2, d3] }
  | _ => none }
def unitsSecondsRow : OpenClaim := { program := "ytbmmmhjgidffpaadoor", sum := "f377c85ccf8d46722884936d934449fb6d8226b6e9b6b7b3c5e74efbd68bf90c", func := "domicile/domicilelaw02.UnitsSeconds", spec := "unitsSeconds", unfollowed := true, recurses := true, named := ["domicile/units.allUnits"], apart := false, laid := [("domicile/units.allUnits", laid_domicile_units_allUnits)] }
def UnitsSecondsSaid : Prop := unitsSecondsRow.holds Tryd.pinned (OpenSpec.ofChange unitsSecondsSpec)

/-- ITS FALSE NEIGHBOUR: 'it returns false'. Refute it at one input. -/
def unitsSecondsWrong : ChangeSpec := { name := "unitsSeconds", fn := fun _ => fun
  | [d1, d2, d3] => { results := [.lit (.bool false)], args := [d1, d2, d3] }
  | _ => none }
def UnitsSecondsWrongFalsely : Prop := unitsSecondsRow.holds Tryd.pinned (OpenSpec.ofChange unitsSecondsWrong)

/-- 'domicilelaw02.UnitsEnergy': WHATEVER THE INPUT: true; the input reads as it did. -/
def unitsEnergySpec : ChangeSpec := { name := "unitsEnergy", fn := fun _ => fun
  | [d1, d2, d3, d4] => { results := [.lit (.bool true)], args := [d1, d2, d3, d4] }
  | _ => none }
def unitsEnergyRow : OpenClaim := { program := "ytbmmmhjgidffpaadoor", sum := "f377c85ccf8d46722884936d934449fb6d8226b6e9b6b7b3c5e74efbd68bf90c", func := "domicile/domicilelaw02.UnitsEnergy", spec := "unitsEnergy", unfollowed := true, recurses := true, named := ["domicile/units.allUnits"], apart := false, laid := [("domicile/units.allUnits", laid_domicile_units_allUnits)] }
def UnitsEnergySaid : Prop := unitsEnergyRow.holds Tryd.pinned (OpenSpec.ofChange unitsEnergySpec)

/-- ITS FALSE NEIGHBOUR: 'it returns false'. Refute it at one input. -/
def unitsEnergyWrong : ChangeSpec := { name := "unitsEnergy", fn := fun _ => fun
  | [d1, d2, d3, d4] => { results := [.lit (.bool false)], args := [d1, d2, d3, d4] }
  | _ => none }
def UnitsEnergyWrongFalsely : Prop := unitsEnergyRow.holds Tryd.pinned (OpenSpec.ofChange unitsEnergyWrong)

/- THE SECOND FORM. 'bulk': how many values and letters a reading holds, each counted each time it is reached (what is shared counts as often as it is met; a slice's spare places count too). A statement '..UptoSaid' is the law's where the arguments, and the package variables that the reading takes, are together of bulk at most 1048576: NARROWER than '..Said'. Prove '..Said' where nothing that the law and all that it calls make is longer than what came in: it says more and counts as full. Else prove '..UptoSaid'. A law counts once. -/
mutual
def uptoBulk {H : Type} : DataW H → Nat
  | .lit (.string bytes) => bytes.length + 1
  | .lit _ => 1
  | .nil => 1
  | .ptr d => uptoBulk d + 1
  | .slice elems spare => uptoBulkAll elems + uptoBulkAll spare + 1
  | .agg parts => uptoBulkAll parts + 1
  | .iface _ d => uptoBulk d + 1
  | .map entries => uptoBulkEntries entries + 1
  | .held _ => 1
def uptoBulkAll {H : Type} : List (DataW H) → Nat
  | [] => 0
  | d :: r => uptoBulk d + uptoBulkAll r
def uptoBulkEntries {H : Type} : List (Lit × DataW H) → Nat
  | [] => 0
  | x :: r => uptoBulkEntry x + uptoBulkEntries r
def uptoBulkEntry {H : Type} : Lit × DataW H → Nat
  | (.string bytes, d) => bytes.length + uptoBulk d + 1
  | (_, d) => uptoBulk d + 1
 end
def uptoSmall : (H : Type) → List (DataW H) → Bool := fun _ ds => decide (uptoBulkAll ds ≤ 1048576)
def OpenSpec.upto (s : _root_.Go.ChangeSpec) : _root_.Go.OpenSpec := { _root_.Go.OpenSpec.ofChange s with cond := some uptoSmall }

/-- 'domicilelaw02.UnitsMatchesReference', WHERE WHAT IT READS IS OF BULK AT MOST 1048576: true; the input reads as it did. -/
def unitsMatchesReferenceUptoRow : OpenClaim := { program := "ytbmmmhjgidffpaadoor", sum := "f377c85ccf8d46722884936d934449fb6d8226b6e9b6b7b3c5e74efbd68bf90c", func := "domicile/domicilelaw02.UnitsMatchesReference", spec := "unitsMatchesReference", unfollowed := true, recurses := true, named := ["domicile/units.allUnits"], apart := false, laid := [("domicile/units.allUnits", laid_domicile_units_allUnits)], narrowed := true }
def UnitsMatchesReferenceUptoSaid : Prop := unitsMatchesReferenceUptoRow.holds Tryd.pinned (OpenSpec.upto unitsMatchesReferenceSpec)

/-- 'domicilelaw02.UnitsBase', WHERE WHAT IT READS IS OF BULK AT MOST 1048576: true; the input reads as it did. -/
def unitsBaseUptoRow : OpenClaim := { program := "ytbmmmhjgidffpaadoor", sum := "f377c85ccf8d46722884936d934449fb6d8226b6e9b6b7b3c5e74efbd68bf90c", func := "domicile/domicilelaw02.UnitsBase", spec := "unitsBase", unfollowed := true, recurses := true, named := ["domicile/units.allUnits"], apart := false, laid := [("domicile/units.allUnits", laid_domicile_units_allUnits)], narrowed := true }
def UnitsBaseUptoSaid : Prop := unitsBaseUptoRow.holds Tryd.pinned (OpenSpec.upto unitsBaseSpec)

/-- 'domicilelaw02.UnitsOrder', WHERE WHAT IT READS IS OF BULK AT MOST 1048576: true; the input reads as it did. -/
def unitsOrderUptoRow : OpenClaim := { program := "ytbmmmhjgidffpaadoor", sum := "f377c85ccf8d46722884936d934449fb6d8226b6e9b6b7b3c5e74efbd68bf90c", func := "domicile/domicilelaw02.UnitsOrder", spec := "unitsOrder", unfollowed := true, recurses := true, named := ["domicile/units.allUnits"], apart := false, laid := [("domicile/units.allUnits", laid_domicile_units_allUnits)], narrowed := true }
def UnitsOrderUptoSaid : Prop := unitsOrderUptoRow.holds Tryd.pinned (OpenSpec.upto unitsOrderSpec)

/-- 'domicilelaw02.UnitsCanonical', WHERE WHAT IT READS IS OF BULK AT MOST 1048576: true; the input reads as it did. -/
def unitsCanonicalUptoRow : OpenClaim := { program := "ytbmmmhjgidffpaadoor", sum := "f377c85ccf8d46722884936d934449fb6d8226b6e9b6b7b3c5e74efbd68bf90c", func := "domicile/domicilelaw02.UnitsCanonical", spec := "unitsCanonical", unfollowed := true, recurses := true, named := ["domicile/units.allUnits"], apart := false, laid := [("domicile/units.allUnits", laid_domicile_units_allUnits)], narrowed := true }
def UnitsCanonicalUptoSaid : Prop := unitsCanonicalUptoRow.holds Tryd.pinned (OpenSpec.upto unitsCanonicalSpec)

/-- 'domicilelaw02.UnitsSums', WHERE WHAT IT READS IS OF BULK AT MOST 1048576: true; the input reads as it did. -/
def unitsSumsUptoRow : OpenClaim := { program := "ytbmmmhjgidffpaadoor", sum := "f377c85ccf8d46722884936d934449fb6d8226b6e9b6b7b3c5e74efbd68bf90c", func := "domicile/domicilelaw02.UnitsSums", spec := "unitsSums", unfollowed := true, recurses := true, named := ["domicile/units.allUnits"], apart := false, laid := [("domicile/units.allUnits", laid_domicile_units_allUnits)], narrowed := true }
def UnitsSumsUptoSaid : Prop := unitsSumsUptoRow.holds Tryd.pinned (OpenSpec.upto unitsSumsSpec)

/-- 'domicilelaw02.UnitsSeconds', WHERE WHAT IT READS IS OF BULK AT MOST 1048576: true; the input reads as it did. -/
def unitsSecondsUptoRow : OpenClaim := { program := "ytbmmmhjgidffpaadoor", sum := "f377c85ccf8d46722884936d934449fb6d8226b6e9b6b7b3c5e74efbd68bf90c", func := "domicile/domicilelaw02.UnitsSeconds", spec := "unitsSeconds", unfollowed := true, recurses := true, named := ["domicile/units.allUnits"], apart := false, laid := [("domicile/units.allUnits", laid_domicile_units_allUnits)], narrowed := true }
def UnitsSecondsUptoSaid : Prop := unitsSecondsUptoRow.holds Tryd.pinned (OpenSpec.upto unitsSecondsSpec)

/-- 'domicilelaw02.UnitsEnergy', WHERE WHAT IT READS IS OF BULK AT MOST 1048576: true; the input reads as it did. -/
def unitsEnergyUptoRow : OpenClaim := { program := "ytbmmmhjgidffpaadoor", sum := "f377c85ccf8d46722884936d934449fb6d8226b6e9b6b7b3c5e74efbd68bf90c", func := "domicile/domicilelaw02.UnitsEnergy", spec := "unitsEnergy", unfollowed := true, recurses := true, named := ["domicile/units.allUnits"], apart := false, laid := [("domicile/units.allUnits", laid_domicile_units_allUnits)], narrowed := true }
def UnitsEnergyUptoSaid : Prop := unitsEnergyUptoRow.holds Tryd.pinned (OpenSpec.upto unitsEnergySpec)

end Rows
end Go.Proofs.YtbmmmhjgidffpaaDoor
