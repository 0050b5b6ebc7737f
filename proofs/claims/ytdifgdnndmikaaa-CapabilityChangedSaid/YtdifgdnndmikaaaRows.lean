/-
  No cell of these rows narrows 'for every input' (looked for: loops, veiled, ifaces, maps, wideKeys, modest, calm, conditions, laid).
  DERIVED. THE GIVEN ROWS OF THIS SEAT. 6 by the template 'for every input the law returns true; each argument reads behind the call as it read before'; 0 by the template 'total and deterministic' (their statements: YtdifgdnndmikaaaTotals.lean).
  GIVEN WITH THE SEED: the statements are not yours to turn. If you find one false, say at which input.
  Laid BY PROGRAM, IN A SANDBOX (cutbox-rows.mjs): the forced cells as the released guide's own fill.sh prints them over the translation d1364d678f34ac72… (all of the seat's roots in one cut). By AI agents, Wed Nov 11 2026. No macro, syntax, notation, axiom, sorry.
-/
import Derived.Test.YtdifgdnndmikaaaChecked
import GoSem.Claim
import GoSem.ClaimJoined
import GoSem.ClaimMapViews
import Derived.JoinedTies
import Derived.KernelRfl
namespace Go.Proofs.Ytdifgdnndmikaaa
/- THE CELL 'sum', in the pinned program and in every row, IS THE sha256 OF THE DUMP (.gsa) THAT YtdifgdnndmikaaaProg.lean LOADS. Nothing in Lean hashes anything: it is a label: what it is worth is what the hold of that sum in a sandbox is worth. -/
noncomputable def Try.pinned : Pinned := { name := "ytdifgdnndmikaaa", sum := "d1364d678f34ac72f6b4dc3c266d6b33431b487c5299742519050af27d06b1d1", checked := Try.checked }
namespace Rows
def none {H : Type} : Left H := { results := [], args := [] }

/-- 'domicilelaw34.CapabilityMatchesReference': WHATEVER THE INPUT: true; the input reads as it did. -/
def capabilityMatchesReferenceSpec : ChangeSpec := { name := "capabilityMatchesReference", fn := fun _ => fun
  | [d1, d2, d3, d4, d5, d6] => { results := [.lit (.bool true)], args := [d1, d2, d3, d4, d5, d6] }
  | _ => none }
def capabilityMatchesReferenceRow : OpenClaim := { program := "ytdifgdnndmikaaa", sum := "d1364d678f34ac72f6b4dc3c266d6b33431b487c5299742519050af27d06b1d1", func := "domicile/domicilelaw34.CapabilityMatchesReference", spec := "capabilityMatchesReference", unfollowed := true, recurses := true, apart := false }
def CapabilityMatchesReferenceSaid : Prop := capabilityMatchesReferenceRow.holds Try.pinned (OpenSpec.ofChange capabilityMatchesReferenceSpec)

/-- ITS FALSE NEIGHBOUR: 'it returns false'. Refute it at one input. -/
def capabilityMatchesReferenceWrong : ChangeSpec := { name := "capabilityMatchesReference", fn := fun _ => fun
  | [d1, d2, d3, d4, d5, d6] => { results := [.lit (.bool false)], args := [d1, d2, d3, d4, d5, d6] }
  | _ => none }
def CapabilityMatchesReferenceWrongFalsely : Prop := capabilityMatchesReferenceRow.holds Try.pinned (OpenSpec.ofChange capabilityMatchesReferenceWrong)

/-- 'domicilelaw34.CapabilityNarrow': WHATEVER THE INPUT: true; the input reads as it did. -/
def capabilityNarrowSpec : ChangeSpec := { name := "capabilityNarrow", fn := fun _ => fun
  | [d1, d2, d3, d4, d5, d6] => { results := [.lit (.bool true)], args := [d1, d2, d3, d4, d5, d6] }
  | _ => none }
def capabilityNarrowRow : OpenClaim := { program := "ytdifgdnndmikaaa", sum := "d1364d678f34ac72f6b4dc3c266d6b33431b487c5299742519050af27d06b1d1", func := "domicile/domicilelaw34.CapabilityNarrow", spec := "capabilityNarrow", unfollowed := true, recurses := true, apart := false }
def CapabilityNarrowSaid : Prop := capabilityNarrowRow.holds Try.pinned (OpenSpec.ofChange capabilityNarrowSpec)

/-- ITS FALSE NEIGHBOUR: 'it returns false'. Refute it at one input. -/
def capabilityNarrowWrong : ChangeSpec := { name := "capabilityNarrow", fn := fun _ => fun
  | [d1, d2, d3, d4, d5, d6] => { results := [.lit (.bool false)], args := [d1, d2, d3, d4, d5, d6] }
  | _ => none }
def CapabilityNarrowWrongFalsely : Prop := capabilityNarrowRow.holds Try.pinned (OpenSpec.ofChange capabilityNarrowWrong)

/-- 'domicilelaw34.CapabilityForged': WHATEVER THE INPUT: true; the input reads as it did. -/
def capabilityForgedSpec : ChangeSpec := { name := "capabilityForged", fn := fun _ => fun
  | [d1, d2, d3, d4] => { results := [.lit (.bool true)], args := [d1, d2, d3, d4] }
  | _ => none }
def capabilityForgedRow : OpenClaim := { program := "ytdifgdnndmikaaa", sum := "d1364d678f34ac72f6b4dc3c266d6b33431b487c5299742519050af27d06b1d1", func := "domicile/domicilelaw34.CapabilityForged", spec := "capabilityForged", unfollowed := true, recurses := true, apart := false }
def CapabilityForgedSaid : Prop := capabilityForgedRow.holds Try.pinned (OpenSpec.ofChange capabilityForgedSpec)

/-- ITS FALSE NEIGHBOUR: 'it returns false'. Refute it at one input. -/
def capabilityForgedWrong : ChangeSpec := { name := "capabilityForged", fn := fun _ => fun
  | [d1, d2, d3, d4] => { results := [.lit (.bool false)], args := [d1, d2, d3, d4] }
  | _ => none }
def CapabilityForgedWrongFalsely : Prop := capabilityForgedRow.holds Try.pinned (OpenSpec.ofChange capabilityForgedWrong)

/-- 'domicilelaw34.CapabilityChanged': WHATEVER THE INPUT: true; the input reads as it did. -/
def capabilityChangedSpec : ChangeSpec := { name := "capabilityChanged", fn := fun _ => fun
  | [d1, d2, d3, d4, d5, d6] => { results := [.lit (.bool true)], args := [d1, d2, d3, d4, d5, d6] }
  | _ => none }
def capabilityChangedRow : OpenClaim := { program := "ytdifgdnndmikaaa", sum := "d1364d678f34ac72f6b4dc3c266d6b33431b487c5299742519050af27d06b1d1", func := "domicile/domicilelaw34.CapabilityChanged", spec := "capabilityChanged", unfollowed := true, recurses := true, apart := false }
def CapabilityChangedSaid : Prop := capabilityChangedRow.holds Try.pinned (OpenSpec.ofChange capabilityChangedSpec)

/-- ITS FALSE NEIGHBOUR: 'it returns false'. Refute it at one input. -/
def capabilityChangedWrong : ChangeSpec := { name := "capabilityChanged", fn := fun _ => fun
  | [d1, d2, d3, d4, d5, d6] => { results := [.lit (.bool false)], args := [d1, d2, d3, d4, d5, d6] }
  | _ => none }
def CapabilityChangedWrongFalsely : Prop := capabilityChangedRow.holds Try.pinned (OpenSpec.ofChange capabilityChangedWrong)

/-- 'domicilelaw34.CapabilityOrder': WHATEVER THE INPUT: true; the input reads as it did. -/
def capabilityOrderSpec : ChangeSpec := { name := "capabilityOrder", fn := fun _ => fun
  | [d1, d2, d3] => { results := [.lit (.bool true)], args := [d1, d2, d3] }
  | _ => none }
def capabilityOrderRow : OpenClaim := { program := "ytdifgdnndmikaaa", sum := "d1364d678f34ac72f6b4dc3c266d6b33431b487c5299742519050af27d06b1d1", func := "domicile/domicilelaw34.CapabilityOrder", spec := "capabilityOrder", unfollowed := true, recurses := true, apart := false }
def CapabilityOrderSaid : Prop := capabilityOrderRow.holds Try.pinned (OpenSpec.ofChange capabilityOrderSpec)

/-- ITS FALSE NEIGHBOUR: 'it returns false'. Refute it at one input. -/
def capabilityOrderWrong : ChangeSpec := { name := "capabilityOrder", fn := fun _ => fun
  | [d1, d2, d3] => { results := [.lit (.bool false)], args := [d1, d2, d3] }
  | _ => none }
def CapabilityOrderWrongFalsely : Prop := capabilityOrderRow.holds Try.pinned (OpenSpec.ofChange capabilityOrderWrong)

/-- 'domicilelaw34.CapabilityTimes': WHATEVER THE INPUT: true; the input reads as it did. -/
def capabilityTimesSpec : ChangeSpec := { name := "capabilityTimes", fn := fun _ => fun
  | [d1, d2, d3, d4, d5, d6] => { results := [.lit (.bool true)], args := [d1, d2, d3, d4, d5, d6] }
  | _ => none }
def capabilityTimesRow : OpenClaim := { program := "ytdifgdnndmikaaa", sum := "d1364d678f34ac72f6b4dc3c266d6b33431b487c5299742519050af27d06b1d1", func := "domicile/domicilelaw34.CapabilityTimes", spec := "capabilityTimes", unfollowed := true, recurses := true, apart := false }
def CapabilityTimesSaid : Prop := capabilityTimesRow.holds Try.pinned (OpenSpec.ofChange capabilityTimesSpec)

/-- ITS FALSE NEIGHBOUR: 'it returns false'. Refute it at one input. -/
def capabilityTimesWrong : ChangeSpec := { name := "capabilityTimes", fn := fun _ => fun
  | [d1, d2, d3, d4, d5, d6] => { results := [.lit (.bool false)], args := [d1, d2, d3, d4, d5, d6] }
  | _ => none }
def CapabilityTimesWrongFalsely : Prop := capabilityTimesRow.holds Try.pinned (OpenSpec.ofChange capabilityTimesWrong)

/- THE SECOND FORM. 'bulk': how many values and letters a reading holds, each counted each time it is reached (what is shared counts as often as it is met; a slice's spare places count too). A statement '..UptoSaid' is the law's where the arguments, and the package variables that the reading takes, are together of bulk at most 1048576: NARROWER than '..Said'. Prove '..Said' where nothing that the law and all that it calls make is longer than what came in: it says more and counts as full. Else prove '..UptoSaid'. A law counts once. -/
mutual
def uptoBulk {H : Type} : DataW H → Nat
  | .lit (.string bytes) => bytes.length + 1
  | .lit _ => 1
  | .nil => 1
  | .ptr d => uptoBulk d + 1
  | .slice elems spare => uptoBulkAll elems + uptoBulkAll spare + 1
  | .agg parts => uptoBulkAll parts + 1
  | .iface _ d => uptoBulk d + 1
  | .map entries => uptoBulkEntries entries + 1
  | .held _ => 1
def uptoBulkAll {H : Type} : List (DataW H) → Nat
  | [] => 0
  | d :: r => uptoBulk d + uptoBulkAll r
def uptoBulkEntries {H : Type} : List (Lit × DataW H) → Nat
  | [] => 0
  | x :: r => uptoBulkEntry x + uptoBulkEntries r
def uptoBulkEntry {H : Type} : Lit × DataW H → Nat
  | (.string bytes, d) => bytes.length + uptoBulk d + 1
  | (_, d) => uptoBulk d + 1
 end
def uptoSmall : (H : Type) → List (DataW H) → Bool := fun _ ds => decide (uptoBulkAll ds ≤ 1048576)
def OpenSpec.upto (s : _root_.Go.ChangeSpec) : _root_.Go.OpenSpec := { _root_.Go.OpenSpec.ofChange s with cond := some uptoSmall }

/-- 'domicilelaw34.CapabilityMatchesReference', WHERE WHAT IT READS IS OF BULK AT MOST 1048576: true; the input reads as it did. -/
def capabilityMatchesReferenceUptoRow : OpenClaim := { program := "ytdifgdnndmikaaa", sum := "d1364d678f34ac72f6b4dc3c266d6b33431b487c5299742519050af27d06b1d1", func := "domicile/domicilelaw34.CapabilityMatchesReference", spec := "capabilityMatchesReference", unfollowed := true, recurses := true, apart := false, narrowed := true }
def CapabilityMatchesReferenceUptoSaid : Prop := capabilityMatchesReferenceUptoRow.holds Try.pinned (OpenSpec.upto capabilityMatchesReferenceSpec)

/-- 'domicilelaw34.CapabilityNarrow', WHERE WHAT IT READS IS OF BULK AT MOST 1048576: true; the input reads as it did. -/
def capabilityNarrowUptoRow : OpenClaim := { program := "ytdifgdnndmikaaa", sum := "d1364d678f34ac72f6b4dc3c266d6b33431b487c5299742519050af27d06b1d1", func := "domicile/domicilelaw34.CapabilityNarrow", spec := "capabilityNarrow", unfollowed := true, recurses := true, apart := false, narrowed := true }
def CapabilityNarrowUptoSaid : Prop := capabilityNarrowUptoRow.holds Try.pinned (OpenSpec.upto capabilityNarrowSpec)

/-- 'domicilelaw34.CapabilityForged', WHERE WHAT IT READS IS OF BULK AT MOST 1048576: true; the input reads as it did. -/
def capabilityForgedUptoRow : OpenClaim := { program := "ytdifgdnndmikaaa", sum := "d1364d678f34ac72f6b4dc3c266d6b33431b487c5299742519050af27d06b1d1", func := "domicile/domicilelaw34.CapabilityForged", spec := "capabilityForged", unfollowed := true, recurses := true, apart := false, narrowed := true }
def CapabilityForgedUptoSaid : Prop := capabilityForgedUptoRow.holds Try.pinned (OpenSpec.upto capabilityForgedSpec)

/-- 'domicilelaw34.CapabilityChanged', WHERE WHAT IT READS IS OF BULK AT MOST 1048576: true; the input reads as it did. -/
def capabilityChangedUptoRow : OpenClaim := { program := "ytdifgdnndmikaaa", sum := "d1364d678f34ac72f6b4dc3c266d6b33431b487c5299742519050af27d06b1d1", func := "domicile/domicilelaw34.CapabilityChanged", spec := "capabilityChanged", unfollowed := true, recurses := true, apart := false, narrowed := true }
def CapabilityChangedUptoSaid : Prop := capabilityChangedUptoRow.holds Try.pinned (OpenSpec.upto capabilityChangedSpec)

/-- 'domicilelaw34.CapabilityOrder', WHERE WHAT IT READS IS OF BULK AT MOST 1048576: true; the input reads as it did. -/
def capabilityOrderUptoRow : OpenClaim := { program := "ytdifgdnndmikaaa", sum := "d1364d678f34ac72f6b4dc3c266d6b33431b487c5299742519050af27d06b1d1", func := "domicile/domicilelaw34.CapabilityOrder", spec := "capabilityOrder", unfollowed := true, recurses := true, apart := false, narrowed := true }
def CapabilityOrderUptoSaid : Prop := capabilityOrderUptoRow.holds Try.pinned (OpenSpec.upto capabilityOrderSpec)

/-- 'domicilelaw34.CapabilityTimes', WHERE WHAT IT READS IS OF BULK AT MOST 1048576: true; the input reads as it did. -/
def capabilityTimesUptoRow : OpenClaim := { program := "ytdifgdnndmikaaa", sum := "d1364d678f34ac72f6b4dc3c266d6b33431b487c5299742519050af27d06b1d1", func := "domicile/domicilelaw34.CapabilityTimes", spec := "capabilityTimes", unfollowed := true, recurses := true, apart := false, narrowed := true }
def CapabilityTimesUptoSaid : Prop := capabilityTimesUptoRow.holds Try.pinned (OpenSpec.upto capabilityTimesSpec)

end Rows
end Go.Proofs.Ytdifgdnndmikaaa
