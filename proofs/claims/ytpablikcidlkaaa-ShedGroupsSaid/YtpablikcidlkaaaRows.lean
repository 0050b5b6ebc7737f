/-
  No cell of these rows narrows 'for every input' (looked for: loops, veiled, ifaces, maps, wideKeys, modest, calm, conditions, laid).
  DERIVED. THE GIVEN ROWS OF THIS SEAT. 7 by the template 'for every input the law returns true; each argument reads behind the call as it read before'; 0 by the template 'total and deterministic' (their statements: YtpablikcidlkaaaTotals.lean).
  GIVEN WITH THE SEED: the statements are not yours to turn. If you find one false, say at which input.
  Laid BY PROGRAM, IN A SANDBOX (cutbox-rows.mjs): the forced cells as the released guide's own fill.sh prints them over the translation 82e94390f33ab39c… (all of the seat's roots in one cut). By AI agents, Wed Nov 11 2026. No macro, syntax, notation, axiom, sorry.
-/
import Derived.Test.YtpablikcidlkaaaChecked
import GoSem.Claim
import GoSem.ClaimJoined
import GoSem.ClaimMapViews
import Derived.JoinedTies
import Derived.KernelRfl
namespace Go.Proofs.Ytpablikcidlkaaa
/- THE CELL 'sum', in the pinned program and in every row, IS THE sha256 OF THE DUMP (.gsa) THAT YtpablikcidlkaaaProg.lean LOADS. Nothing in Lean hashes anything: it is a label: what it is worth is what the hold of that sum in a sandbox is worth. -/
noncomputable def Try.pinned : Pinned := { name := "ytpablikcidlkaaa", sum := "82e94390f33ab39cd58f38ff91441a1f9129e98c5c72c1713cb8dbdd40c3aa56", checked := Try.checked }
namespace Rows
def none {H : Type} : Left H := { results := [], args := [] }

/-- 'domicilelaw41.ShedMatchesReference': WHATEVER THE INPUT: true; the input reads as it did. -/
def shedMatchesReferenceSpec : ChangeSpec := { name := "shedMatchesReference", fn := fun _ => fun
  | [d1, d2, d3, d4] => { results := [.lit (.bool true)], args := [d1, d2, d3, d4] }
  | _ => none }
def shedMatchesReferenceRow : OpenClaim := { program := "ytpablikcidlkaaa", sum := "82e94390f33ab39cd58f38ff91441a1f9129e98c5c72c1713cb8dbdd40c3aa56", func := "domicile/domicilelaw41.ShedMatchesReference", spec := "shedMatchesReference", unfollowed := true, recurses := true, apart := false }
def ShedMatchesReferenceSaid : Prop := shedMatchesReferenceRow.holds Try.pinned (OpenSpec.ofChange shedMatchesReferenceSpec)

/-- ITS FALSE NEIGHBOUR: 'it returns false'. Refute it at one input. -/
def shedMatchesReferenceWrong : ChangeSpec := { name := "shedMatchesReference", fn := fun _ => fun
  | [d1, d2, d3, d4] => { results := [.lit (.bool false)], args := [d1, d2, d3, d4] }
  | _ => none }
def ShedMatchesReferenceWrongFalsely : Prop := shedMatchesReferenceRow.holds Try.pinned (OpenSpec.ofChange shedMatchesReferenceWrong)

/-- 'domicilelaw41.ShedLimits': WHATEVER THE INPUT: true; the input reads as it did. -/
def shedLimitsSpec : ChangeSpec := { name := "shedLimits", fn := fun _ => fun
  | [d1, d2] => { results := [.lit (.bool true)], args := [d1, d2] }
  | _ => none }
def shedLimitsRow : OpenClaim := { program := "ytpablikcidlkaaa", sum := "82e94390f33ab39cd58f38ff91441a1f9129e98c5c72c1713cb8dbdd40c3aa56", func := "domicile/domicilelaw41.ShedLimits", spec := "shedLimits", unfollowed := true, recurses := true, apart := false }
def ShedLimitsSaid : Prop := shedLimitsRow.holds Try.pinned (OpenSpec.ofChange shedLimitsSpec)

/-- ITS FALSE NEIGHBOUR: 'it returns false'. Refute it at one input. -/
def shedLimitsWrong : ChangeSpec := { name := "shedLimits", fn := fun _ => fun
  | [d1, d2] => { results := [.lit (.bool false)], args := [d1, d2] }
  | _ => none }
def ShedLimitsWrongFalsely : Prop := shedLimitsRow.holds Try.pinned (OpenSpec.ofChange shedLimitsWrong)

/-- 'domicilelaw41.ShedPriorities': WHATEVER THE INPUT: true; the input reads as it did. -/
def shedPrioritiesSpec : ChangeSpec := { name := "shedPriorities", fn := fun _ => fun
  | [d1, d2] => { results := [.lit (.bool true)], args := [d1, d2] }
  | _ => none }
def shedPrioritiesRow : OpenClaim := { program := "ytpablikcidlkaaa", sum := "82e94390f33ab39cd58f38ff91441a1f9129e98c5c72c1713cb8dbdd40c3aa56", func := "domicile/domicilelaw41.ShedPriorities", spec := "shedPriorities", unfollowed := true, recurses := true, apart := false }
def ShedPrioritiesSaid : Prop := shedPrioritiesRow.holds Try.pinned (OpenSpec.ofChange shedPrioritiesSpec)

/-- ITS FALSE NEIGHBOUR: 'it returns false'. Refute it at one input. -/
def shedPrioritiesWrong : ChangeSpec := { name := "shedPriorities", fn := fun _ => fun
  | [d1, d2] => { results := [.lit (.bool false)], args := [d1, d2] }
  | _ => none }
def ShedPrioritiesWrongFalsely : Prop := shedPrioritiesRow.holds Try.pinned (OpenSpec.ofChange shedPrioritiesWrong)

/-- 'domicilelaw41.ShedGroups': WHATEVER THE INPUT: true; the input reads as it did. -/
def shedGroupsSpec : ChangeSpec := { name := "shedGroups", fn := fun _ => fun
  | [d1, d2, d3, d4, d5] => { results := [.lit (.bool true)], args := [d1, d2, d3, d4, d5] }
  | _ => none }
def shedGroupsRow : OpenClaim := { program := "ytpablikcidlkaaa", sum := "82e94390f33ab39cd58f38ff91441a1f9129e98c5c72c1713cb8dbdd40c3aa56", func := "domicile/domicilelaw41.ShedGroups", spec := "shedGroups", unfollowed := true, recurses := true, apart := false }
def ShedGroupsSaid : Prop := shedGroupsRow.holds Try.pinned (OpenSpec.ofChange shedGroupsSpec)

/-- ITS FALSE NEIGHBOUR: 'it returns false'. Refute it at one input. -/
def shedGroupsWrong : ChangeSpec := { name := "shedGroups", fn := fun _ => fun
  | [d1, d2, d3, d4, d5] => { results := [.lit (.bool false)], args := [d1, d2, d3, d4, d5] }
  | _ => none }
def ShedGroupsWrongFalsely : Prop := shedGroupsRow.holds Try.pinned (OpenSpec.ofChange shedGroupsWrong)

/-- 'domicilelaw41.ShedSteps': WHATEVER THE INPUT: true; the input reads as it did. -/
def shedStepsSpec : ChangeSpec := { name := "shedSteps", fn := fun _ => fun
  | [d1, d2, d3, d4] => { results := [.lit (.bool true)], args := [d1, d2, d3, d4] }
  | _ => none }
def shedStepsRow : OpenClaim := { program := "ytpablikcidlkaaa", sum := "82e94390f33ab39cd58f38ff91441a1f9129e98c5c72c1713cb8dbdd40c3aa56", func := "domicile/domicilelaw41.ShedSteps", spec := "shedSteps", unfollowed := true, recurses := true, apart := false }
def ShedStepsSaid : Prop := shedStepsRow.holds Try.pinned (OpenSpec.ofChange shedStepsSpec)

/-- ITS FALSE NEIGHBOUR: 'it returns false'. Refute it at one input. -/
def shedStepsWrong : ChangeSpec := { name := "shedSteps", fn := fun _ => fun
  | [d1, d2, d3, d4] => { results := [.lit (.bool false)], args := [d1, d2, d3, d4] }
  | _ => none }
def ShedStepsWrongFalsely : Prop := shedStepsRow.holds Try.pinned (OpenSpec.ofChange shedStepsWrong)

/-- 'domicilelaw41.ShedQuiet': WHATEVER THE INPUT: true; the input reads as it did. -/
def shedQuietSpec : ChangeSpec := { name := "shedQuiet", fn := fun _ => fun
  | [d1, d2, d3, d4] => { results := [.lit (.bool true)], args := [d1, d2, d3, d4] }
  | _ => none }
def shedQuietRow : OpenClaim := { program := "ytpablikcidlkaaa", sum := "82e94390f33ab39cd58f38ff91441a1f9129e98c5c72c1713cb8dbdd40c3aa56", func := "domicile/domicilelaw41.ShedQuiet", spec := "shedQuiet", unfollowed := true, recurses := true, apart := false }
def ShedQuietSaid : Prop := shedQuietRow.holds Try.pinned (OpenSpec.ofChange shedQuietSpec)

/-- ITS FALSE NEIGHBOUR: 'it returns false'. Refute it at one input. -/
def shedQuietWrong : ChangeSpec := { name := "shedQuiet", fn := fun _ => fun
  | [d1, d2, d3, d4] => { results := [.lit (.bool false)], args := [d1, d2, d3, d4] }
  | _ => none }
def ShedQuietWrongFalsely : Prop := shedQuietRow.holds Try.pinned (OpenSpec.ofChange shedQuietWrong)

/-- 'domicilelaw41.ShedRoom': WHATEVER THE INPUT: true; the input reads as it did. -/
def shedRoomSpec : ChangeSpec := { name := "shedRoom", fn := fun _ => fun
  | [d1, d2, d3] => { results := [.lit (.bool true)], args := [d1, d2, d3] }
  | _ => none }
def shedRoomRow : OpenClaim := { program := "ytpablikcidlkaaa", sum := "82e94390f33ab39cd58f38ff91441a1f9129e98c5c72c1713cb8dbdd40c3aa56", func := "domicile/domicilelaw41.ShedRoom", spec := "shedRoom", unfollowed := true, recurses := true, apart := false }
def ShedRoomSaid : Prop := shedRoomRow.holds Try.pinned (OpenSpec.ofChange shedRoomSpec)

/-- ITS FALSE NEIGHBOUR: 'it returns false'. Refute it at one input. -/
def shedRoomWrong : ChangeSpec := { name := "shedRoom", fn := fun _ => fun
  | [d1, d2, d3] => { results := [.lit (.bool false)], args := [d1, d2, d3] }
  | _ => none }
def ShedRoomWrongFalsely : Prop := shedRoomRow.holds Try.pinned (OpenSpec.ofChange shedRoomWrong)

/- THE SECOND FORM. 'bulk': how many values and letters a reading holds, each counted each time it is reached (what is shared counts as often as it is met; a slice's spare places count too). A statement '..UptoSaid' is the law's where the arguments, and the package variables that the reading takes, are together of bulk at most 1048576: NARROWER than '..Said'. Prove '..Said' where nothing that the law and all that it calls make is longer than what came in: it says more and counts as full. Else prove '..UptoSaid'. A law counts once. -/
mutual
def uptoBulk {H : Type} : DataW H → Nat
  | .lit (.string bytes) => bytes.length + 1
  | .lit _ => 1
  | .nil => 1
  | .ptr d => uptoBulk d + 1
  | .slice elems spare => uptoBulkAll elems + uptoBulkAll spare + 1
  | .agg parts => uptoBulkAll parts + 1
  | .iface _ d => uptoBulk d + 1
  | .map entries => uptoBulkEntries entries + 1
  | .held _ => 1
def uptoBulkAll {H : Type} : List (DataW H) → Nat
  | [] => 0
  | d :: r => uptoBulk d + uptoBulkAll r
def uptoBulkEntries {H : Type} : List (Lit × DataW H) → Nat
  | [] => 0
  | x :: r => uptoBulkEntry x + uptoBulkEntries r
def uptoBulkEntry {H : Type} : Lit × DataW H → Nat
  | (.string bytes, d) => bytes.length + uptoBulk d + 1
  | (_, d) => uptoBulk d + 1
 end
def uptoSmall : (H : Type) → List (DataW H) → Bool := fun _ ds => decide (uptoBulkAll ds ≤ 1048576)
def OpenSpec.upto (s : _root_.Go.ChangeSpec) : _root_.Go.OpenSpec := { _root_.Go.OpenSpec.ofChange s with cond := some uptoSmall }

/-- 'domicilelaw41.ShedMatchesReference', WHERE WHAT IT READS IS OF BULK AT MOST 1048576: true; the input reads as it did. -/
def shedMatchesReferenceUptoRow : OpenClaim := { program := "ytpablikcidlkaaa", sum := "82e94390f33ab39cd58f38ff91441a1f9129e98c5c72c1713cb8dbdd40c3aa56", func := "domicile/domicilelaw41.ShedMatchesReference", spec := "shedMatchesReference", unfollowed := true, recurses := true, apart := false, narrowed := true }
def ShedMatchesReferenceUptoSaid : Prop := shedMatchesReferenceUptoRow.holds Try.pinned (OpenSpec.upto shedMatchesReferenceSpec)

/-- 'domicilelaw41.ShedLimits', WHERE WHAT IT READS IS OF BULK AT MOST 1048576: true; the input reads as it did. -/
def shedLimitsUptoRow : OpenClaim := { program := "ytpablikcidlkaaa", sum := "82e94390f33ab39cd58f38ff91441a1f9129e98c5c72c1713cb8dbdd40c3aa56", func := "domicile/domicilelaw41.ShedLimits", spec := "shedLimits", unfollowed := true, recurses := true, apart := false, narrowed := true }
def ShedLimitsUptoSaid : Prop := shedLimitsUptoRow.holds Try.pinned (OpenSpec.upto shedLimitsSpec)

/-- 'domicilelaw41.ShedPriorities', WHERE WHAT IT READS IS OF BULK AT MOST 1048576: true; the input reads as it did. -/
def shedPrioritiesUptoRow : OpenClaim := { program := "ytpablikcidlkaaa", sum := "82e94390f33ab39cd58f38ff91441a1f9129e98c5c72c1713cb8dbdd40c3aa56", func := "domicile/domicilelaw41.ShedPriorities", spec := "shedPriorities", unfollowed := true, recurses := true, apart := false, narrowed := true }
def ShedPrioritiesUptoSaid : Prop := shedPrioritiesUptoRow.holds Try.pinned (OpenSpec.upto shedPrioritiesSpec)

/-- 'domicilelaw41.ShedGroups', WHERE WHAT IT READS IS OF BULK AT MOST 1048576: true; the input reads as it did. -/
def shedGroupsUptoRow : OpenClaim := { program := "ytpablikcidlkaaa", sum := "82e94390f33ab39cd58f38ff91441a1f9129e98c5c72c1713cb8dbdd40c3aa56", func := "domicile/domicilelaw41.ShedGroups", spec := "shedGroups", unfollowed := true, recurses := true, apart := false, narrowed := true }
def ShedGroupsUptoSaid : Prop := shedGroupsUptoRow.holds Try.pinned (OpenSpec.upto shedGroupsSpec)

/-- 'domicilelaw41.ShedSteps', WHERE WHAT IT READS IS OF BULK AT MOST 1048576: true; the input reads as it did. -/
def shedStepsUptoRow : OpenClaim := { program := "ytpablikcidlkaaa", sum := "82e94390f33ab39cd58f38ff91441a1f9129e98c5c72c1713cb8dbdd40c3aa56", func := "domicile/domicilelaw41.ShedSteps", spec := "shedSteps", unfollowed := true, recurses := true, apart := false, narrowed := true }
def ShedStepsUptoSaid : Prop := shedStepsUptoRow.holds Try.pinned (OpenSpec.upto shedStepsSpec)

/-- 'domicilelaw41.ShedQuiet', WHERE WHAT IT READS IS OF BULK AT MOST 1048576: true; the input reads as it did. -/
def shedQuietUptoRow : OpenClaim := { program := "ytpablikcidlkaaa", sum := "82e94390f33ab39cd58f38ff91441a1f9129e98c5c72c1713cb8dbdd40c3aa56", func := "domicile/domicilelaw41.ShedQuiet", spec := "shedQuiet", unfollowed := true, recurses := true, apart := false, narrowed := true }
def ShedQuietUptoSaid : Prop := shedQuietUptoRow.holds Try.pinned (OpenSpec.upto shedQuietSpec)

/-- 'domicilelaw41.ShedRoom', WHERE WHAT IT READS IS OF BULK AT MOST 1048576: true; the input reads as it did. -/
def shedRoomUptoRow : OpenClaim := { program := "ytpablikcidlkaaa", sum := "82e94390f33ab39cd58f38ff91441a1f9129e98c5c72c1713cb8dbdd40c3aa56", func := "domicile/domicilelaw41.ShedRoom", spec := "shedRoom", unfollowed := true, recurses := true, apart := false, narrowed := true }
def ShedRoomUptoSaid : Prop := shedRoomUptoRow.holds Try.pinned (OpenSpec.upto shedRoomSpec)

end Rows
end Go.Proofs.Ytpablikcidlkaaa
