/-
  DERIVED. GIVEN WITH THE SEED: THE CARDS: each row of YtbmmmhjgidffpaaDoorRows.lean that lists a variable, with what it lists TIED to the program's text (the seventh form; the later family's looks); each row that meets fmt, with fmt's text TOLD by the authors' own Lean function (tested against real Go, not proved from fmt's source: count such statements apart). THE CARD IS WHAT COUNTS. Prove the row's statement (the work); the ties are given (YtbmmmhjgidffpaaDoorTie.lean); close each card by the builder's one call (the guide's Derived/Test/ToyasCard.lean, 'card_holds'). Laid BY PROGRAM, IN A SANDBOX (cutbox-door.mjs). By AI agents, Wed Nov 11 2026. No macro, syntax, notation, axiom, sorry.
-/
import Derived.Test.YtbmmmhjgidffpaaDoorRows
import GoSem.ClaimSeven
namespace Go.Proofs.YtbmmmhjgidffpaaDoor
namespace Rows

/-- THE TIED CARD OF 'domicilelaw02.UnitsMatchesReference'. -/
def unitsMatchesReferenceCard : Claim7 := { stood := { row := unitsMatchesReferenceRow, standIns := [], harness := (true, "4dea19ef362e9ae00f0c0fa30aabab40206bc440e0148b53cc4d4e08de368d83"), looks := false }, kinds := [], alts := [], laidByText := true, laidKinds := [.data], laidTests := true, laidLooks := .later }
def UnitsMatchesReferenceCardSaid : Prop := Claim7.holds Tryd.pinned (.plain (OpenSpec.ofChange unitsMatchesReferenceSpec)) unitsMatchesReferenceCard

/-- THE TIED CARD OF 'domicilelaw02.UnitsBase'. -/
def unitsBaseCard : Claim7 := { stood := { row := unitsBaseRow, standIns := [], harness := (true, "4dea19ef362e9ae00f0c0fa30aabab40206bc440e0148b53cc4d4e08de368d83"), looks := false }, kinds := [], alts := [], laidByText := true, laidKinds := [.data], laidTests := true, laidLooks := .later }
def UnitsBaseCardSaid : Prop := Claim7.holds Tryd.pinned (.plain (OpenSpec.ofChange unitsBaseSpec)) unitsBaseCard

/-- THE TIED CARD OF 'domicilelaw02.UnitsOrder'. -/
def unitsOrderCard : Claim7 := { stood := { row := unitsOrderRow, standIns := [], harness := (true, "4dea19ef362e9ae00f0c0fa30aabab40206bc440e0148b53cc4d4e08de368d83"), looks := false }, kinds := [], alts := [], laidByText := true, laidKinds := [.data], laidTests := true, laidLooks := .later }
def UnitsOrderCardSaid : Prop := Claim7.holds Tryd.pinned (.plain (OpenSpec.ofChange unitsOrderSpec)) unitsOrderCard

/-- THE TIED CARD OF 'domicilelaw02.UnitsCanonical'. -/
def unitsCanonicalCard : Claim7 := { stood := { row := unitsCanonicalRow, standIns := [], harness := (true, "4dea19ef362e9ae00f0c0fa30aabab40206bc440e0148b53cc4d4e08de368d83"), looks := false }, kinds := [], alts := [], laidByText := true, laidKinds := [.data], laidTests := true, laidLooks := .later }
def UnitsCanonicalCardSaid : Prop := Claim7.holds Tryd.pinned (.plain (OpenSpec.ofChange unitsCanonicalSpec)) unitsCanonicalCard

/-- THE TIED CARD OF 'domicilelaw02.UnitsSums'. -/
def unitsSumsCard : Claim7 := { stood := { row := unitsSumsRow, standIns := [], harness := (true, "4dea19ef362e9ae00f0c0fa30aabab40206bc440e0148b53cc4d4e08de368d83"), looks := false }, kinds := [], alts := [], laidByText := true, laidKinds := [.data], laidTests := true, laidLooks := .later }
def UnitsSumsCardSaid : Prop := Claim7.holds Tryd.pinned (.plain (OpenSpec.ofChange unitsSumsSpec)) unitsSumsCard

/-- THE TIED CARD OF 'domicilelaw02.UnitsSeconds'. -/
def unitsSecondsCard : Claim7 := { stood := { row := unitsSecondsRow, standIns := [], harness := (true, "4dea19ef362e9ae00f0c0fa30aabab40206bc440e0148b53cc4d4e08de368d83"), looks := false }, kinds := [], alts := [], laidByText := true, laidKinds := [.data], laidTests := true, laidLooks := .later }
def UnitsSecondsCardSaid : Prop := Claim7.holds Tryd.pinned (.plain (OpenSpec.ofChange unitsSecondsSpec)) unitsSecondsCard

/-- THE TIED CARD OF 'domicilelaw02.UnitsEnergy'. -/
def unitsEnergyCard : Claim7 := { stood := { row := unitsEnergyRow, standIns := [], harness := (true, "4dea19ef362e9ae00f0c0fa30aabab40206bc440e0148b53cc4d4e08de368d83"), looks := false }, kinds := [], alts := [], laidByText := true, laidKinds := [.data], laidTests := true, laidLooks := .later }
def UnitsEnergyCardSaid : Prop := Claim7.holds Tryd.pinned (.plain (OpenSpec.ofChange unitsEnergySpec)) unitsEnergyCard

/-- THE SECOND FORM's CARD OF 'domicilelaw02.UnitsMatchesReference'. -/
def unitsMatchesReferenceUptoCard : Claim7 := { stood := { row := unitsMatchesReferenceUptoRow, standIns := [], harness := (true, "4dea19ef362e9ae00f0c0fa30aabab40206bc440e0148b53cc4d4e08de368d83"), looks := false }, kinds := [], alts := [], laidByText := true, laidKinds := [.data], laidTests := true, laidLooks := .later }
def UnitsMatchesReferenceUptoCardSaid : Prop := Claim7.holds Tryd.pinned (.plain (OpenSpec.upto unitsMatchesReferenceSpec)) unitsMatchesReferenceUptoCard

/-- THE SECOND FORM's CARD OF 'domicilelaw02.UnitsBase'. -/
def unitsBaseUptoCard : Claim7 := { stood := { row := unitsBaseUptoRow, standIns := [], harness := (true, "4dea19ef362e9ae00f0c0fa30aabab40206bc440e0148b53cc4d4e08de368d83"), looks := false }, kinds := [], alts := [], laidByText := true, laidKinds := [.data], laidTests := true, laidLooks := .later }
def UnitsBaseUptoCardSaid : Prop := Claim7.holds Tryd.pinned (.plain (OpenSpec.upto unitsBaseSpec)) unitsBaseUptoCard

/-- THE SECOND FORM's CARD OF 'domicilelaw02.UnitsOrder'. -/
def unitsOrderUptoCard : Claim7 := { stood := { row := unitsOrderUptoRow, standIns := [], harness := (true, "4dea19ef362e9ae00f0c0fa30aabab40206bc440e0148b53cc4d4e08de368d83"), looks := false }, kinds := [], alts := [], laidByText := true, laidKinds := [.data], laidTests := true, laidLooks := .later }
def UnitsOrderUptoCardSaid : Prop := Claim7.holds Tryd.pinned (.plain (OpenSpec.upto unitsOrderSpec)) unitsOrderUptoCard

/-- THE SECOND FORM's CARD OF 'domicilelaw02.UnitsCanonical'. -/
def unitsCanonicalUptoCard : Claim7 := { stood := { row := unitsCanonicalUptoRow, standIns := [], harness := (true, "4dea19ef362e9ae00f0c0fa30aabab40206bc440e0148b53cc4d4e08de368d83"), looks := false }, kinds := [], alts := [], laidByText := true, laidKinds := [.data], laidTests := true, laidLooks := .later }
def UnitsCanonicalUptoCardSaid : Prop := Claim7.holds Tryd.pinned (.plain (OpenSpec.upto unitsCanonicalSpec)) unitsCanonicalUptoCard

/-- THE SECOND FORM's CARD OF 'domicilelaw02.UnitsSums'. -/
def unitsSumsUptoCard : Claim7 := { stood := { row := unitsSumsUptoRow, standIns := [], harness := (true, "4dea19ef362e9ae00f0c0fa30aabab40206bc440e0148b53cc4d4e08de368d83"), looks := false }, kinds := [], alts := [], laidByText := true, laidKinds := [.data], laidTests := true, laidLooks := .later }
def UnitsSumsUptoCardSaid : Prop := Claim7.holds Tryd.pinned (.plain (OpenSpec.upto unitsSumsSpec)) unitsSumsUptoCard

/-- THE SECOND FORM's CARD OF 'domicilelaw02.UnitsSeconds'. -/
def unitsSecondsUptoCard : Claim7 := { stood := { row := unitsSecondsUptoRow, standIns := [], harness := (true, "4dea19ef362e9ae00f0c0fa30aabab40206bc440e0148b53cc4d4e08de368d83"), looks := false }, kinds := [], alts := [], laidByText := true, laidKinds := [.data], laidTests := true, laidLooks := .later }
def UnitsSecondsUptoCardSaid : Prop := Claim7.holds Tryd.pinned (.plain (OpenSpec.upto unitsSecondsSpec)) unitsSecondsUptoCard

/-- THE SECOND FORM's CARD OF 'domicilelaw02.UnitsEnergy'. -/
def unitsEnergyUptoCard : Claim7 := { stood := { row := unitsEnergyUptoRow, standIns := [], harness := (true, "4dea19ef362e9ae00f0c0fa30aabab40206bc440e0148b53cc4d4e08de368d83"), looks := false }, kinds := [], alts := [], laidByText := true, laidKinds := [.data], laidTests := true, laidLooks := .later }
def UnitsEnergyUptoCardSaid : Prop := Claim7.holds Tryd.pinned (.plain (OpenSpec.upto unitsEnergySpec)) unitsEnergyUptoCard
end Rows
end Go.Proofs.YtbmmmhjgidffpaaDoor
