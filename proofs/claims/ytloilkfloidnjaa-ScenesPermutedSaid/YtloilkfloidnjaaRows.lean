/-
  No cell of these rows narrows 'for every input' (looked for: loops, veiled, ifaces, maps, wideKeys, modest, calm, conditions, laid).
  DERIVED. THE GIVEN ROWS OF THIS SEAT. 8 by the template 'for every input the law returns true; each argument reads behind the call as it read before'; 0 by the template 'total and deterministic' (their statements: YtloilkfloidnjaaTotals.lean).
  GIVEN WITH THE SEED: the statements are not yours to turn. If you find one false, say at which input.
  Laid BY PROGRAM, IN A SANDBOX (cutbox-rows.mjs): the forced cells as the released guide's own fill.sh prints them over the translation 56d5b3ec0aed1ed7… (all of the seat's roots in one cut). By AI agents, Wed Nov 11 2026. No macro, syntax, notation, axiom, sorry.
-/
import Derived.Test.YtloilkfloidnjaaChecked
import GoSem.Claim
import GoSem.ClaimJoined
import GoSem.ClaimMapViews
import Derived.JoinedTies
import Derived.KernelRfl
namespace Go.Proofs.Ytloilkfloidnjaa
/- THE CELL 'sum', in the pinned program and in every row, IS THE sha256 OF THE DUMP (.gsa) THAT YtloilkfloidnjaaProg.lean LOADS. Nothing in Lean hashes anything: it is a label: what it is worth is what the hold of that sum in a sandbox is worth. -/
noncomputable def Try.pinned : Pinned := { name := "ytloilkfloidnjaa", sum := "56d5b3ec0aed1ed7322ec2660020a7a676cd7dc008764c6000a23b63035a8e34", checked := Try.checked }
namespace Rows
def none {H : Type} : Left H := { results := [], args := [] }

/-- 'domicilelaw05.ScenesMatchesReference': WHATEVER THE INPUT: true; the input reads as it did. -/
def scenesMatchesReferenceSpec : ChangeSpec := { name := "scenesMatchesReference", fn := fun _ => fun
  | [d1, d2, d3] => { results := [.lit (.bool true)], args := [d1, d2, d3] }
  | _ => none }
def scenesMatchesReferenceRow : OpenClaim := { program := "ytloilkfloidnjaa", sum := "56d5b3ec0aed1ed7322ec2660020a7a676cd7dc008764c6000a23b63035a8e34", func := "domicile/domicilelaw05.ScenesMatchesReference", spec := "scenesMatchesReference", unfollowed := true, recurses := true, plainKeys := false, apart := false }
def ScenesMatchesReferenceSaid : Prop := scenesMatchesReferenceRow.holds Try.pinned (OpenSpec.ofChange scenesMatchesReferenceSpec)

/-- ITS FALSE NEIGHBOUR: 'it returns false'. Refute it at one input. -/
def scenesMatchesReferenceWrong : ChangeSpec := { name := "scenesMatchesReference", fn := fun _ => fun
  | [d1, d2, d3] => { results := [.lit (.bool false)], args := [d1, d2, d3] }
  | _ => none }
def ScenesMatchesReferenceWrongFalsely : Prop := scenesMatchesReferenceRow.holds Try.pinned (OpenSpec.ofChange scenesMatchesReferenceWrong)

/-- 'domicilelaw05.ScenesWinners': WHATEVER THE INPUT: true; the input reads as it did. -/
def scenesWinnersSpec : ChangeSpec := { name := "scenesWinners", fn := fun _ => fun
  | [d1, d2, d3] => { results := [.lit (.bool true)], args := [d1, d2, d3] }
  | _ => none }
def scenesWinnersRow : OpenClaim := { program := "ytloilkfloidnjaa", sum := "56d5b3ec0aed1ed7322ec2660020a7a676cd7dc008764c6000a23b63035a8e34", func := "domicile/domicilelaw05.ScenesWinners", spec := "scenesWinners", unfollowed := true, recurses := true, plainKeys := false, apart := false }
def ScenesWinnersSaid : Prop := scenesWinnersRow.holds Try.pinned (OpenSpec.ofChange scenesWinnersSpec)

/-- ITS FALSE NEIGHBOUR: 'it returns false'. Refute it at one input. -/
def scenesWinnersWrong : ChangeSpec := { name := "scenesWinners", fn := fun _ => fun
  | [d1, d2, d3] => { results := [.lit (.bool false)], args := [d1, d2, d3] }
  | _ => none }
def ScenesWinnersWrongFalsely : Prop := scenesWinnersRow.holds Try.pinned (OpenSpec.ofChange scenesWinnersWrong)

/-- 'domicilelaw05.ScenesOrder': WHATEVER THE INPUT: true; the input reads as it did. -/
def scenesOrderSpec : ChangeSpec := { name := "scenesOrder", fn := fun _ => fun
  | [d1, d2] => { results := [.lit (.bool true)], args := [d1, d2] }
  | _ => none }
def scenesOrderRow : OpenClaim := { program := "ytloilkfloidnjaa", sum := "56d5b3ec0aed1ed7322ec2660020a7a676cd7dc008764c6000a23b63035a8e34", func := "domicile/domicilelaw05.ScenesOrder", spec := "scenesOrder", unfollowed := true, recurses := true, plainKeys := false, apart := false }
def ScenesOrderSaid : Prop := scenesOrderRow.holds Try.pinned (OpenSpec.ofChange scenesOrderSpec)

/-- ITS FALSE NEIGHBOUR: 'it returns false'. Refute it at one input. -/
def scenesOrderWrong : ChangeSpec := { name := "scenesOrder", fn := fun _ => fun
  | [d1, d2] => { results := [.lit (.bool false)], args := [d1, d2] }
  | _ => none }
def ScenesOrderWrongFalsely : Prop := scenesOrderRow.holds Try.pinned (OpenSpec.ofChange scenesOrderWrong)

/-- 'domicilelaw05.ScenesLayers': WHATEVER THE INPUT: true; the input reads as it did. -/
def scenesLayersSpec : ChangeSpec := { name := "scenesLayers", fn := fun _ => fun
  | [d1, d2, d3] => { results := [.lit (.bool true)], args := [d1, d2, d3] }
  | _ => none }
def scenesLayersRow : OpenClaim := { program := "ytloilkfloidnjaa", sum := "56d5b3ec0aed1ed7322ec2660020a7a676cd7dc008764c6000a23b63035a8e34", func := "domicile/domicilelaw05.ScenesLayers", spec := "scenesLayers", unfollowed := true, recurses := true, plainKeys := false, apart := false }
def ScenesLayersSaid : Prop := scenesLayersRow.holds Try.pinned (OpenSpec.ofChange scenesLayersSpec)

/-- ITS FALSE NEIGHBOUR: 'it returns false'. Refute it at one input. -/
def scenesLayersWrong : ChangeSpec := { name := "scenesLayers", fn := fun _ => fun
  | [d1, d2, d3] => { results := [.lit (.bool false)], args := [d1, d2, d3] }
  | _ => none }
def ScenesLayersWrongFalsely : Prop := scenesLayersRow.holds Try.pinned (OpenSpec.ofChange scenesLayersWrong)

/-- 'domicilelaw05.ScenesPermuted': WHATEVER THE INPUT: true; the input reads as it did. -/
def scenesPermutedSpec : ChangeSpec := { name := "scenesPermuted", fn := fun _ => fun
  | [d1, d2] => { results := [.lit (.bool true)], args := [d1, d2] }
  | _ => none }
def scenesPermutedRow : OpenClaim := { program := "ytloilkfloidnjaa", sum := "56d5b3ec0aed1ed7322ec2660020a7a676cd7dc008764c6000a23b63035a8e34", func := "domicile/domicilelaw05.ScenesPermuted", spec := "scenesPermuted", unfollowed := true, recurses := true, plainKeys := false, apart := false }
def ScenesPermutedSaid : Prop := scenesPermutedRow.holds Try.pinned (OpenSpec.ofChange scenesPermutedSpec)

/-- ITS FALSE NEIGHBOUR: 'it returns false'. Refute it at one input. -/
def scenesPermutedWrong : ChangeSpec := { name := "scenesPermuted", fn := fun _ => fun
  | [d1, d2] => { results := [.lit (.bool false)], args := [d1, d2] }
  | _ => none }
def ScenesPermutedWrongFalsely : Prop := scenesPermutedRow.holds Try.pinned (OpenSpec.ofChange scenesPermutedWrong)

/-- 'domicilelaw05.ScenesFurther': WHATEVER THE INPUT: true; the input reads as it did. -/
def scenesFurtherSpec : ChangeSpec := { name := "scenesFurther", fn := fun _ => fun
  | [d1, d2, d3, d4] => { results := [.lit (.bool true)], args := [d1, d2, d3, d4] }
  | _ => none }
def scenesFurtherRow : OpenClaim := { program := "ytloilkfloidnjaa", sum := "56d5b3ec0aed1ed7322ec2660020a7a676cd7dc008764c6000a23b63035a8e34", func := "domicile/domicilelaw05.ScenesFurther", spec := "scenesFurther", unfollowed := true, recurses := true, plainKeys := false, apart := false }
def ScenesFurtherSaid : Prop := scenesFurtherRow.holds Try.pinned (OpenSpec.ofChange scenesFurtherSpec)

/-- ITS FALSE NEIGHBOUR: 'it returns false'. Refute it at one input. -/
def scenesFurtherWrong : ChangeSpec := { name := "scenesFurther", fn := fun _ => fun
  | [d1, d2, d3, d4] => { results := [.lit (.bool false)], args := [d1, d2, d3, d4] }
  | _ => none }
def ScenesFurtherWrongFalsely : Prop := scenesFurtherRow.holds Try.pinned (OpenSpec.ofChange scenesFurtherWrong)

/-- 'domicilelaw05.ScenesAlone': WHATEVER THE INPUT: true; the input reads as it did. -/
def scenesAloneSpec : ChangeSpec := { name := "scenesAlone", fn := fun _ => fun
  | [d1, d2, d3] => { results := [.lit (.bool true)], args := [d1, d2, d3] }
  | _ => none }
def scenesAloneRow : OpenClaim := { program := "ytloilkfloidnjaa", sum := "56d5b3ec0aed1ed7322ec2660020a7a676cd7dc008764c6000a23b63035a8e34", func := "domicile/domicilelaw05.ScenesAlone", spec := "scenesAlone", unfollowed := true, recurses := true, plainKeys := false, apart := false }
def ScenesAloneSaid : Prop := scenesAloneRow.holds Try.pinned (OpenSpec.ofChange scenesAloneSpec)

/-- ITS FALSE NEIGHBOUR: 'it returns false'. Refute it at one input. -/
def scenesAloneWrong : ChangeSpec := { name := "scenesAlone", fn := fun _ => fun
  | [d1, d2, d3] => { results := [.lit (.bool false)], args := [d1, d2, d3] }
  | _ => none }
def ScenesAloneWrongFalsely : Prop := scenesAloneRow.holds Try.pinned (OpenSpec.ofChange scenesAloneWrong)

/-- 'domicilelaw05.ScenesOthers': WHATEVER THE INPUT: true; the input reads as it did. -/
def scenesOthersSpec : ChangeSpec := { name := "scenesOthers", fn := fun _ => fun
  | [d1, d2, d3] => { results := [.lit (.bool true)], args := [d1, d2, d3] }
  | _ => none }
def scenesOthersRow : OpenClaim := { program := "ytloilkfloidnjaa", sum := "56d5b3ec0aed1ed7322ec2660020a7a676cd7dc008764c6000a23b63035a8e34", func := "domicile/domicilelaw05.ScenesOthers", spec := "scenesOthers", unfollowed := true, recurses := true, plainKeys := false, apart := false }
def ScenesOthersSaid : Prop := scenesOthersRow.holds Try.pinned (OpenSpec.ofChange scenesOthersSpec)

/-- ITS FALSE NEIGHBOUR: 'it returns false'. Refute it at one input. -/
def scenesOthersWrong : ChangeSpec := { name := "scenesOthers", fn := fun _ => fun
  | [d1, d2, d3] => { results := [.lit (.bool false)], args := [d1, d2, d3] }
  | _ => none }
def ScenesOthersWrongFalsely : Prop := scenesOthersRow.holds Try.pinned (OpenSpec.ofChange scenesOthersWrong)

/- THE SECOND FORM. 'bulk': how many values and letters a reading holds, each counted each time it is reached (what is shared counts as often as it is met; a slice's spare places count too). A statement '..UptoSaid' is the law's where the arguments, and the package variables that the reading takes, are together of bulk at most 1048576: NARROWER than '..Said'. Prove '..Said' where nothing that the law and all that it calls make is longer than what came in: it says more and counts as full. Else prove '..UptoSaid'. A law counts once. -/
mutual
def uptoBulk {H : Type} : DataW H → Nat
  | .lit (.string bytes) => bytes.length + 1
  | .lit _ => 1
  | .nil => 1
  | .ptr d => uptoBulk d + 1
  | .slice elems spare => uptoBulkAll elems + uptoBulkAll spare + 1
  | .agg parts => uptoBulkAll parts + 1
  | .iface _ d => uptoBulk d + 1
  | .map entries => uptoBulkEntries entries + 1
  | .held _ => 1
def uptoBulkAll {H : Type} : List (DataW H) → Nat
  | [] => 0
  | d :: r => uptoBulk d + uptoBulkAll r
def uptoBulkEntries {H : Type} : List (Lit × DataW H) → Nat
  | [] => 0
  | x :: r => uptoBulkEntry x + uptoBulkEntries r
def uptoBulkEntry {H : Type} : Lit × DataW H → Nat
  | (.string bytes, d) => bytes.length + uptoBulk d + 1
  | (_, d) => uptoBulk d + 1
 end
def uptoSmall : (H : Type) → List (DataW H) → Bool := fun _ ds => decide (uptoBulkAll ds ≤ 1048576)
def OpenSpec.upto (s : _root_.Go.ChangeSpec) : _root_.Go.OpenSpec := { _root_.Go.OpenSpec.ofChange s with cond := some uptoSmall }

/-- 'domicilelaw05.ScenesMatchesReference', WHERE WHAT IT READS IS OF BULK AT MOST 1048576: true; the input reads as it did. -/
def scenesMatchesReferenceUptoRow : OpenClaim := { program := "ytloilkfloidnjaa", sum := "56d5b3ec0aed1ed7322ec2660020a7a676cd7dc008764c6000a23b63035a8e34", func := "domicile/domicilelaw05.ScenesMatchesReference", spec := "scenesMatchesReference", unfollowed := true, recurses := true, plainKeys := false, apart := false, narrowed := true }
def ScenesMatchesReferenceUptoSaid : Prop := scenesMatchesReferenceUptoRow.holds Try.pinned (OpenSpec.upto scenesMatchesReferenceSpec)

/-- 'domicilelaw05.ScenesWinners', WHERE WHAT IT READS IS OF BULK AT MOST 1048576: true; the input reads as it did. -/
def scenesWinnersUptoRow : OpenClaim := { program := "ytloilkfloidnjaa", sum := "56d5b3ec0aed1ed7322ec2660020a7a676cd7dc008764c6000a23b63035a8e34", func := "domicile/domicilelaw05.ScenesWinners", spec := "scenesWinners", unfollowed := true, recurses := true, plainKeys := false, apart := false, narrowed := true }
def ScenesWinnersUptoSaid : Prop := scenesWinnersUptoRow.holds Try.pinned (OpenSpec.upto scenesWinnersSpec)

/-- 'domicilelaw05.ScenesOrder', WHERE WHAT IT READS IS OF BULK AT MOST 1048576: true; the input reads as it did. -/
def scenesOrderUptoRow : OpenClaim := { program := "ytloilkfloidnjaa", sum := "56d5b3ec0aed1ed7322ec2660020a7a676cd7dc008764c6000a23b63035a8e34", func := "domicile/domicilelaw05.ScenesOrder", spec := "scenesOrder", unfollowed := true, recurses := true, plainKeys := false, apart := false, narrowed := true }
def ScenesOrderUptoSaid : Prop := scenesOrderUptoRow.holds Try.pinned (OpenSpec.upto scenesOrderSpec)

/-- 'domicilelaw05.ScenesLayers', WHERE WHAT IT READS IS OF BULK AT MOST 1048576: true; the input reads as it did. -/
def scenesLayersUptoRow : OpenClaim := { program := "ytloilkfloidnjaa", sum := "56d5b3ec0aed1ed7322ec2660020a7a676cd7dc008764c6000a23b63035a8e34", func := "domicile/domicilelaw05.ScenesLayers", spec := "scenesLayers", unfollowed := true, recurses := true, plainKeys := false, apart := false, narrowed := true }
def ScenesLayersUptoSaid : Prop := scenesLayersUptoRow.holds Try.pinned (OpenSpec.upto scenesLayersSpec)

/-- 'domicilelaw05.ScenesPermuted', WHERE WHAT IT READS IS OF BULK AT MOST 1048576: true; the input reads as it did. -/
def scenesPermutedUptoRow : OpenClaim := { program := "ytloilkfloidnjaa", sum := "56d5b3ec0aed1ed7322ec2660020a7a676cd7dc008764c6000a23b63035a8e34", func := "domicile/domicilelaw05.ScenesPermuted", spec := "scenesPermuted", unfollowed := true, recurses := true, plainKeys := false, apart := false, narrowed := true }
def ScenesPermutedUptoSaid : Prop := scenesPermutedUptoRow.holds Try.pinned (OpenSpec.upto scenesPermutedSpec)

/-- 'domicilelaw05.ScenesFurther', WHERE WHAT IT READS IS OF BULK AT MOST 1048576: true; the input reads as it did. -/
def scenesFurtherUptoRow : OpenClaim := { program := "ytloilkfloidnjaa", sum := "56d5b3ec0aed1ed7322ec2660020a7a676cd7dc008764c6000a23b63035a8e34", func := "domicile/domicilelaw05.ScenesFurther", spec := "scenesFurther", unfollowed := true, recurses := true, plainKeys := false, apart := false, narrowed := true }
def ScenesFurtherUptoSaid : Prop := scenesFurtherUptoRow.holds Try.pinned (OpenSpec.upto scenesFurtherSpec)

/-- 'domicilelaw05.ScenesAlone', WHERE WHAT IT READS IS OF BULK AT MOST 1048576: true; the input reads as it did. -/
def scenesAloneUptoRow : OpenClaim := { program := "ytloilkfloidnjaa", sum := "56d5b3ec0aed1ed7322ec2660020a7a676cd7dc008764c6000a23b63035a8e34", func := "domicile/domicilelaw05.ScenesAlone", spec := "scenesAlone", unfollowed := true, recurses := true, plainKeys := false, apart := false, narrowed := true }
def ScenesAloneUptoSaid : Prop := scenesAloneUptoRow.holds Try.pinned (OpenSpec.upto scenesAloneSpec)

/-- 'domicilelaw05.ScenesOthers', WHERE WHAT IT READS IS OF BULK AT MOST 1048576: true; the input reads as it did. -/
def scenesOthersUptoRow : OpenClaim := { program := "ytloilkfloidnjaa", sum := "56d5b3ec0aed1ed7322ec2660020a7a676cd7dc008764c6000a23b63035a8e34", func := "domicile/domicilelaw05.ScenesOthers", spec := "scenesOthers", unfollowed := true, recurses := true, plainKeys := false, apart := false, narrowed := true }
def ScenesOthersUptoSaid : Prop := scenesOthersUptoRow.holds Try.pinned (OpenSpec.upto scenesOthersSpec)

end Rows
end Go.Proofs.Ytloilkfloidnjaa
