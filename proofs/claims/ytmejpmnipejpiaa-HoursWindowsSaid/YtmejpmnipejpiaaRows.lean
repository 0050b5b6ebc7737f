/-
  No cell of these rows narrows 'for every input' (looked for: loops, veiled, ifaces, maps, wideKeys, modest, calm, conditions, laid).
  DERIVED. THE GIVEN ROWS OF THIS SEAT. 6 by the template 'for every input the law returns true; each argument reads behind the call as it read before'; 0 by the template 'total and deterministic' (their statements: YtmejpmnipejpiaaTotals.lean).
  GIVEN WITH THE SEED: the statements are not yours to turn. If you find one false, say at which input.
  Laid BY PROGRAM, IN A SANDBOX (cutbox-rows.mjs): the forced cells as the released guide's own fill.sh prints them over the translation 445aa3e13c8fece3… (all of the seat's roots in one cut). By AI agents, Wed Nov 11 2026. No macro, syntax, notation, axiom, sorry.
-/
import Derived.Test.YtmejpmnipejpiaaChecked
import GoSem.Claim
import GoSem.ClaimJoined
import GoSem.ClaimMapViews
import Derived.JoinedTies
import Derived.KernelRfl
namespace Go.Proofs.Ytmejpmnipejpiaa
/- THE CELL 'sum', in the pinned program and in every row, IS THE sha256 OF THE DUMP (.gsa) THAT YtmejpmnipejpiaaProg.lean LOADS. Nothing in Lean hashes anything: it is a label: what it is worth is what the hold of that sum in a sandbox is worth. -/
noncomputable def Try.pinned : Pinned := { name := "ytmejpmnipejpiaa", sum := "445aa3e13c8fece383af6f06a5eefeaa816a95767dc9738330dec9cae4cb1699", checked := Try.checked }
namespace Rows
def none {H : Type} : Left H := { results := [], args := [] }

/-- 'domicilelaw22.HoursMatchesReference': WHATEVER THE INPUT: true; the input reads as it did. -/
def hoursMatchesReferenceSpec : ChangeSpec := { name := "hoursMatchesReference", fn := fun _ => fun
  | [d1, d2, d3, d4] => { results := [.lit (.bool true)], args := [d1, d2, d3, d4] }
  | _ => none }
def hoursMatchesReferenceRow : OpenClaim := { program := "ytmejpmnipejpiaa", sum := "445aa3e13c8fece383af6f06a5eefeaa816a95767dc9738330dec9cae4cb1699", func := "domicile/domicilelaw22.HoursMatchesReference", spec := "hoursMatchesReference", unfollowed := true, recurses := true, apart := false }
def HoursMatchesReferenceSaid : Prop := hoursMatchesReferenceRow.holds Try.pinned (OpenSpec.ofChange hoursMatchesReferenceSpec)

/-- ITS FALSE NEIGHBOUR: 'it returns false'. Refute it at one input. -/
def hoursMatchesReferenceWrong : ChangeSpec := { name := "hoursMatchesReference", fn := fun _ => fun
  | [d1, d2, d3, d4] => { results := [.lit (.bool false)], args := [d1, d2, d3, d4] }
  | _ => none }
def HoursMatchesReferenceWrongFalsely : Prop := hoursMatchesReferenceRow.holds Try.pinned (OpenSpec.ofChange hoursMatchesReferenceWrong)

/-- 'domicilelaw22.HoursDays': WHATEVER THE INPUT: true; the input reads as it did. -/
def hoursDaysSpec : ChangeSpec := { name := "hoursDays", fn := fun _ => fun
  | [d1, d2, d3] => { results := [.lit (.bool true)], args := [d1, d2, d3] }
  | _ => none }
def hoursDaysRow : OpenClaim := { program := "ytmejpmnipejpiaa", sum := "445aa3e13c8fece383af6f06a5eefeaa816a95767dc9738330dec9cae4cb1699", func := "domicile/domicilelaw22.HoursDays", spec := "hoursDays", unfollowed := true, recurses := true, apart := false }
def HoursDaysSaid : Prop := hoursDaysRow.holds Try.pinned (OpenSpec.ofChange hoursDaysSpec)

/-- ITS FALSE NEIGHBOUR: 'it returns false'. Refute it at one input. -/
def hoursDaysWrong : ChangeSpec := { name := "hoursDays", fn := fun _ => fun
  | [d1, d2, d3] => { results := [.lit (.bool false)], args := [d1, d2, d3] }
  | _ => none }
def HoursDaysWrongFalsely : Prop := hoursDaysRow.holds Try.pinned (OpenSpec.ofChange hoursDaysWrong)

/-- 'domicilelaw22.HoursNext': WHATEVER THE INPUT: true; the input reads as it did. -/
def hoursNextSpec : ChangeSpec := { name := "hoursNext", fn := fun _ => fun
  | [d1, d2, d3] => { results := [.lit (.bool true)], args := [d1, d2, d3] }
  | _ => none }
def hoursNextRow : OpenClaim := { program := "ytmejpmnipejpiaa", sum := "445aa3e13c8fece383af6f06a5eefeaa816a95767dc9738330dec9cae4cb1699", func := "domicile/domicilelaw22.HoursNext", spec := "hoursNext", unfollowed := true, recurses := true, apart := false }
def HoursNextSaid : Prop := hoursNextRow.holds Try.pinned (OpenSpec.ofChange hoursNextSpec)

/-- ITS FALSE NEIGHBOUR: 'it returns false'. Refute it at one input. -/
def hoursNextWrong : ChangeSpec := { name := "hoursNext", fn := fun _ => fun
  | [d1, d2, d3] => { results := [.lit (.bool false)], args := [d1, d2, d3] }
  | _ => none }
def HoursNextWrongFalsely : Prop := hoursNextRow.holds Try.pinned (OpenSpec.ofChange hoursNextWrong)

/-- 'domicilelaw22.HoursChanges': WHATEVER THE INPUT: true; the input reads as it did. -/
def hoursChangesSpec : ChangeSpec := { name := "hoursChanges", fn := fun _ => fun
  | [d1, d2, d3, d4, d5] => { results := [.lit (.bool true)], args := [d1, d2, d3, d4, d5] }
  | _ => none }
def hoursChangesRow : OpenClaim := { program := "ytmejpmnipejpiaa", sum := "445aa3e13c8fece383af6f06a5eefeaa816a95767dc9738330dec9cae4cb1699", func := "domicile/domicilelaw22.HoursChanges", spec := "hoursChanges", unfollowed := true, recurses := true, apart := false }
def HoursChangesSaid : Prop := hoursChangesRow.holds Try.pinned (OpenSpec.ofChange hoursChangesSpec)

/-- ITS FALSE NEIGHBOUR: 'it returns false'. Refute it at one input. -/
def hoursChangesWrong : ChangeSpec := { name := "hoursChanges", fn := fun _ => fun
  | [d1, d2, d3, d4, d5] => { results := [.lit (.bool false)], args := [d1, d2, d3, d4, d5] }
  | _ => none }
def HoursChangesWrongFalsely : Prop := hoursChangesRow.holds Try.pinned (OpenSpec.ofChange hoursChangesWrong)

/-- 'domicilelaw22.HoursWindows': WHATEVER THE INPUT: true; the input reads as it did. -/
def hoursWindowsSpec : ChangeSpec := { name := "hoursWindows", fn := fun _ => fun
  | [d1, d2, d3] => { results := [.lit (.bool true)], args := [d1, d2, d3] }
  | _ => none }
def hoursWindowsRow : OpenClaim := { program := "ytmejpmnipejpiaa", sum := "445aa3e13c8fece383af6f06a5eefeaa816a95767dc9738330dec9cae4cb1699", func := "domicile/domicilelaw22.HoursWindows", spec := "hoursWindows", unfollowed := true, recurses := true, apart := false }
def HoursWindowsSaid : Prop := hoursWindowsRow.holds Try.pinned (OpenSpec.ofChange hoursWindowsSpec)

/-- ITS FALSE NEIGHBOUR: 'it returns false'. Refute it at one input. -/
def hoursWindowsWrong : ChangeSpec := { name := "hoursWindows", fn := fun _ => fun
  | [d1, d2, d3] => { results := [.lit (.bool false)], args := [d1, d2, d3] }
  | _ => none }
def HoursWindowsWrongFalsely : Prop := hoursWindowsRow.holds Try.pinned (OpenSpec.ofChange hoursWindowsWrong)

/-- 'domicilelaw22.HoursClocks': WHATEVER THE INPUT: true; the input reads as it did. -/
def hoursClocksSpec : ChangeSpec := { name := "hoursClocks", fn := fun _ => fun
  | [d1, d2, d3] => { results := [.lit (.bool true)], args := [d1, d2, d3] }
  | _ => none }
def hoursClocksRow : OpenClaim := { program := "ytmejpmnipejpiaa", sum := "445aa3e13c8fece383af6f06a5eefeaa816a95767dc9738330dec9cae4cb1699", func := "domicile/domicilelaw22.HoursClocks", spec := "hoursClocks", unfollowed := true, recurses := true, apart := false }
def HoursClocksSaid : Prop := hoursClocksRow.holds Try.pinned (OpenSpec.ofChange hoursClocksSpec)

/-- ITS FALSE NEIGHBOUR: 'it returns false'. Refute it at one input. -/
def hoursClocksWrong : ChangeSpec := { name := "hoursClocks", fn := fun _ => fun
  | [d1, d2, d3] => { results := [.lit (.bool false)], args := [d1, d2, d3] }
  | _ => none }
def HoursClocksWrongFalsely : Prop := hoursClocksRow.holds Try.pinned (OpenSpec.ofChange hoursClocksWrong)

/- THE SECOND FORM. 'bulk': how many values and letters a reading holds, each counted each time it is reached (what is shared counts as often as it is met; a slice's spare places count too). A statement '..UptoSaid' is the law's where the arguments, and the package variables that the reading takes, are together of bulk at most 1048576: NARROWER than '..Said'. Prove '..Said' where nothing that the law and all that it calls make is longer than what came in: it says more and counts as full. Else prove '..UptoSaid'. A law counts once. -/
mutual
def uptoBulk {H : Type} : DataW H → Nat
  | .lit (.string bytes) => bytes.length + 1
  | .lit _ => 1
  | .nil => 1
  | .ptr d => uptoBulk d + 1
  | .slice elems spare => uptoBulkAll elems + uptoBulkAll spare + 1
  | .agg parts => uptoBulkAll parts + 1
  | .iface _ d => uptoBulk d + 1
  | .map entries => uptoBulkEntries entries + 1
  | .held _ => 1
def uptoBulkAll {H : Type} : List (DataW H) → Nat
  | [] => 0
  | d :: r => uptoBulk d + uptoBulkAll r
def uptoBulkEntries {H : Type} : List (Lit × DataW H) → Nat
  | [] => 0
  | x :: r => uptoBulkEntry x + uptoBulkEntries r
def uptoBulkEntry {H : Type} : Lit × DataW H → Nat
  | (.string bytes, d) => bytes.length + uptoBulk d + 1
  | (_, d) => uptoBulk d + 1
 end
def uptoSmall : (H : Type) → List (DataW H) → Bool := fun _ ds => decide (uptoBulkAll ds ≤ 1048576)
def OpenSpec.upto (s : _root_.Go.ChangeSpec) : _root_.Go.OpenSpec := { _root_.Go.OpenSpec.ofChange s with cond := some uptoSmall }

/-- 'domicilelaw22.HoursMatchesReference', WHERE WHAT IT READS IS OF BULK AT MOST 1048576: true; the input reads as it did. -/
def hoursMatchesReferenceUptoRow : OpenClaim := { program := "ytmejpmnipejpiaa", sum := "445aa3e13c8fece383af6f06a5eefeaa816a95767dc9738330dec9cae4cb1699", func := "domicile/domicilelaw22.HoursMatchesReference", spec := "hoursMatchesReference", unfollowed := true, recurses := true, apart := false, narrowed := true }
def HoursMatchesReferenceUptoSaid : Prop := hoursMatchesReferenceUptoRow.holds Try.pinned (OpenSpec.upto hoursMatchesReferenceSpec)

/-- 'domicilelaw22.HoursDays', WHERE WHAT IT READS IS OF BULK AT MOST 1048576: true; the input reads as it did. -/
def hoursDaysUptoRow : OpenClaim := { program := "ytmejpmnipejpiaa", sum := "445aa3e13c8fece383af6f06a5eefeaa816a95767dc9738330dec9cae4cb1699", func := "domicile/domicilelaw22.HoursDays", spec := "hoursDays", unfollowed := true, recurses := true, apart := false, narrowed := true }
def HoursDaysUptoSaid : Prop := hoursDaysUptoRow.holds Try.pinned (OpenSpec.upto hoursDaysSpec)

/-- 'domicilelaw22.HoursNext', WHERE WHAT IT READS IS OF BULK AT MOST 1048576: true; the input reads as it did. -/
def hoursNextUptoRow : OpenClaim := { program := "ytmejpmnipejpiaa", sum := "445aa3e13c8fece383af6f06a5eefeaa816a95767dc9738330dec9cae4cb1699", func := "domicile/domicilelaw22.HoursNext", spec := "hoursNext", unfollowed := true, recurses := true, apart := false, narrowed := true }
def HoursNextUptoSaid : Prop := hoursNextUptoRow.holds Try.pinned (OpenSpec.upto hoursNextSpec)

/-- 'domicilelaw22.HoursChanges', WHERE WHAT IT READS IS OF BULK AT MOST 1048576: true; the input reads as it did. -/
def hoursChangesUptoRow : OpenClaim := { program := "ytmejpmnipejpiaa", sum := "445aa3e13c8fece383af6f06a5eefeaa816a95767dc9738330dec9cae4cb1699", func := "domicile/domicilelaw22.HoursChanges", spec := "hoursChanges", unfollowed := true, recurses := true, apart := false, narrowed := true }
def HoursChangesUptoSaid : Prop := hoursChangesUptoRow.holds Try.pinned (OpenSpec.upto hoursChangesSpec)

/-- 'domicilelaw22.HoursWindows', WHERE WHAT IT READS IS OF BULK AT MOST 1048576: true; the input reads as it did. -/
def hoursWindowsUptoRow : OpenClaim := { program := "ytmejpmnipejpiaa", sum := "445aa3e13c8fece383af6f06a5eefeaa816a95767dc9738330dec9cae4cb1699", func := "domicile/domicilelaw22.HoursWindows", spec := "hoursWindows", unfollowed := true, recurses := true, apart := false, narrowed := true }
def HoursWindowsUptoSaid : Prop := hoursWindowsUptoRow.holds Try.pinned (OpenSpec.upto hoursWindowsSpec)

/-- 'domicilelaw22.HoursClocks', WHERE WHAT IT READS IS OF BULK AT MOST 1048576: true; the input reads as it did. -/
def hoursClocksUptoRow : OpenClaim := { program := "ytmejpmnipejpiaa", sum := "445aa3e13c8fece383af6f06a5eefeaa816a95767dc9738330dec9cae4cb1699", func := "domicile/domicilelaw22.HoursClocks", spec := "hoursClocks", unfollowed := true, recurses := true, apart := false, narrowed := true }
def HoursClocksUptoSaid : Prop := hoursClocksUptoRow.holds Try.pinned (OpenSpec.upto hoursClocksSpec)

end Rows
end Go.Proofs.Ytmejpmnipejpiaa
