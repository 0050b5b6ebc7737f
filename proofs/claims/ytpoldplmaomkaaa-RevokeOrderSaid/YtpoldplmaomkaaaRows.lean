/-
  No cell of these rows narrows 'for every input' (looked for: loops, veiled, ifaces, maps, wideKeys, modest, calm, conditions, laid).
  DERIVED. THE GIVEN ROWS OF THIS SEAT. 6 by the template 'for every input the law returns true; each argument reads behind the call as it read before'; 0 by the template 'total and deterministic' (their statements: YtpoldplmaomkaaaTotals.lean).
  GIVEN WITH THE SEED: the statements are not yours to turn. If you find one false, say at which input.
  Laid BY PROGRAM, IN A SANDBOX (cutbox-rows.mjs): the forced cells as the released guide's own fill.sh prints them over the translation c17e9199f006ad8e… (all of the seat's roots in one cut). By AI agents, Wed Nov 11 2026. No macro, syntax, notation, axiom, sorry.
-/
import Derived.Test.YtpoldplmaomkaaaChecked
import GoSem.Claim
import GoSem.ClaimJoined
import GoSem.ClaimMapViews
import Derived.JoinedTies
import Derived.KernelRfl
namespace Go.Proofs.Ytpoldplmaomkaaa
/- THE CELL 'sum', in the pinned program and in every row, IS THE sha256 OF THE DUMP (.gsa) THAT YtpoldplmaomkaaaProg.lean LOADS. Nothing in Lean hashes anything: it is a label: what it is worth is what the hold of that sum in a sandbox is worth. -/
noncomputable def Try.pinned : Pinned := { name := "ytpoldplmaomkaaa", sum := "c17e9199f006ad8ea105e1ec531d5e3a5c876c44bbc1e706909589e7bb2376be", checked := Try.checked }
namespace Rows
def none {H : Type} : Left H := { results := [], args := [] }

/-- 'domicilelaw35.RevokeMatchesReference': WHATEVER THE INPUT: true; the input reads as it did. -/
def revokeMatchesReferenceSpec : ChangeSpec := { name := "revokeMatchesReference", fn := fun _ => fun
  | [d1, d2, d3, d4, d5, d6, d7] => { results := [.lit (.bool true)], args := [d1, d2, d3, d4, d5, d6, d7] }
  | _ => none }
def revokeMatchesReferenceRow : OpenClaim := { program := "ytpoldplmaomkaaa", sum := "c17e9199f006ad8ea105e1ec531d5e3a5c876c44bbc1e706909589e7bb2376be", func := "domicile/domicilelaw35.RevokeMatchesReference", spec := "revokeMatchesReference", unfollowed := true, recurses := true, apart := false }
def RevokeMatchesReferenceSaid : Prop := revokeMatchesReferenceRow.holds Try.pinned (OpenSpec.ofChange revokeMatchesReferenceSpec)

/-- ITS FALSE NEIGHBOUR: 'it returns false'. Refute it at one input. -/
def revokeMatchesReferenceWrong : ChangeSpec := { name := "revokeMatchesReference", fn := fun _ => fun
  | [d1, d2, d3, d4, d5, d6, d7] => { results := [.lit (.bool false)], args := [d1, d2, d3, d4, d5, d6, d7] }
  | _ => none }
def RevokeMatchesReferenceWrongFalsely : Prop := revokeMatchesReferenceRow.holds Try.pinned (OpenSpec.ofChange revokeMatchesReferenceWrong)

/-- 'domicilelaw35.RevokeSets': WHATEVER THE INPUT: true; the input reads as it did. -/
def revokeSetsSpec : ChangeSpec := { name := "revokeSets", fn := fun _ => fun
  | [d1, d2, d3] => { results := [.lit (.bool true)], args := [d1, d2, d3] }
  | _ => none }
def revokeSetsRow : OpenClaim := { program := "ytpoldplmaomkaaa", sum := "c17e9199f006ad8ea105e1ec531d5e3a5c876c44bbc1e706909589e7bb2376be", func := "domicile/domicilelaw35.RevokeSets", spec := "revokeSets", unfollowed := true, recurses := true, apart := false }
def RevokeSetsSaid : Prop := revokeSetsRow.holds Try.pinned (OpenSpec.ofChange revokeSetsSpec)

/-- ITS FALSE NEIGHBOUR: 'it returns false'. Refute it at one input. -/
def revokeSetsWrong : ChangeSpec := { name := "revokeSets", fn := fun _ => fun
  | [d1, d2, d3] => { results := [.lit (.bool false)], args := [d1, d2, d3] }
  | _ => none }
def RevokeSetsWrongFalsely : Prop := revokeSetsRow.holds Try.pinned (OpenSpec.ofChange revokeSetsWrong)

/-- 'domicilelaw35.RevokeMerges': WHATEVER THE INPUT: true; the input reads as it did. -/
def revokeMergesSpec : ChangeSpec := { name := "revokeMerges", fn := fun _ => fun
  | [d1, d2, d3, d4] => { results := [.lit (.bool true)], args := [d1, d2, d3, d4] }
  | _ => none }
def revokeMergesRow : OpenClaim := { program := "ytpoldplmaomkaaa", sum := "c17e9199f006ad8ea105e1ec531d5e3a5c876c44bbc1e706909589e7bb2376be", func := "domicile/domicilelaw35.RevokeMerges", spec := "revokeMerges", unfollowed := true, recurses := true, apart := false }
def RevokeMergesSaid : Prop := revokeMergesRow.holds Try.pinned (OpenSpec.ofChange revokeMergesSpec)

/-- ITS FALSE NEIGHBOUR: 'it returns false'. Refute it at one input. -/
def revokeMergesWrong : ChangeSpec := { name := "revokeMerges", fn := fun _ => fun
  | [d1, d2, d3, d4] => { results := [.lit (.bool false)], args := [d1, d2, d3, d4] }
  | _ => none }
def RevokeMergesWrongFalsely : Prop := revokeMergesRow.holds Try.pinned (OpenSpec.ofChange revokeMergesWrong)

/-- 'domicilelaw35.RevokeOrder': WHATEVER THE INPUT: true; the input reads as it did. -/
def revokeOrderSpec : ChangeSpec := { name := "revokeOrder", fn := fun _ => fun
  | [d1, d2] => { results := [.lit (.bool true)], args := [d1, d2] }
  | _ => none }
def revokeOrderRow : OpenClaim := { program := "ytpoldplmaomkaaa", sum := "c17e9199f006ad8ea105e1ec531d5e3a5c876c44bbc1e706909589e7bb2376be", func := "domicile/domicilelaw35.RevokeOrder", spec := "revokeOrder", unfollowed := true, recurses := true, apart := false }
def RevokeOrderSaid : Prop := revokeOrderRow.holds Try.pinned (OpenSpec.ofChange revokeOrderSpec)

/-- ITS FALSE NEIGHBOUR: 'it returns false'. Refute it at one input. -/
def revokeOrderWrong : ChangeSpec := { name := "revokeOrder", fn := fun _ => fun
  | [d1, d2] => { results := [.lit (.bool false)], args := [d1, d2] }
  | _ => none }
def RevokeOrderWrongFalsely : Prop := revokeOrderRow.holds Try.pinned (OpenSpec.ofChange revokeOrderWrong)

/-- 'domicilelaw35.RevokeNarrowed': WHATEVER THE INPUT: true; the input reads as it did. -/
def revokeNarrowedSpec : ChangeSpec := { name := "revokeNarrowed", fn := fun _ => fun
  | [d1, d2, d3, d4, d5, d6, d7] => { results := [.lit (.bool true)], args := [d1, d2, d3, d4, d5, d6, d7] }
  | _ => none }
def revokeNarrowedRow : OpenClaim := { program := "ytpoldplmaomkaaa", sum := "c17e9199f006ad8ea105e1ec531d5e3a5c876c44bbc1e706909589e7bb2376be", func := "domicile/domicilelaw35.RevokeNarrowed", spec := "revokeNarrowed", unfollowed := true, recurses := true, apart := false }
def RevokeNarrowedSaid : Prop := revokeNarrowedRow.holds Try.pinned (OpenSpec.ofChange revokeNarrowedSpec)

/-- ITS FALSE NEIGHBOUR: 'it returns false'. Refute it at one input. -/
def revokeNarrowedWrong : ChangeSpec := { name := "revokeNarrowed", fn := fun _ => fun
  | [d1, d2, d3, d4, d5, d6, d7] => { results := [.lit (.bool false)], args := [d1, d2, d3, d4, d5, d6, d7] }
  | _ => none }
def RevokeNarrowedWrongFalsely : Prop := revokeNarrowedRow.holds Try.pinned (OpenSpec.ofChange revokeNarrowedWrong)

/-- 'domicilelaw35.RevokeMore': WHATEVER THE INPUT: true; the input reads as it did. -/
def revokeMoreSpec : ChangeSpec := { name := "revokeMore", fn := fun _ => fun
  | [d1, d2, d3, d4, d5, d6] => { results := [.lit (.bool true)], args := [d1, d2, d3, d4, d5, d6] }
  | _ => none }
def revokeMoreRow : OpenClaim := { program := "ytpoldplmaomkaaa", sum := "c17e9199f006ad8ea105e1ec531d5e3a5c876c44bbc1e706909589e7bb2376be", func := "domicile/domicilelaw35.RevokeMore", spec := "revokeMore", unfollowed := true, recurses := true, apart := false }
def RevokeMoreSaid : Prop := revokeMoreRow.holds Try.pinned (OpenSpec.ofChange revokeMoreSpec)

/-- ITS FALSE NEIGHBOUR: 'it returns false'. Refute it at one input. -/
def revokeMoreWrong : ChangeSpec := { name := "revokeMore", fn := fun _ => fun
  | [d1, d2, d3, d4, d5, d6] => { results := [.lit (.bool false)], args := [d1, d2, d3, d4, d5, d6] }
  | _ => none }
def RevokeMoreWrongFalsely : Prop := revokeMoreRow.holds Try.pinned (OpenSpec.ofChange revokeMoreWrong)

/- THE SECOND FORM. 'bulk': how many values and letters a reading holds, each counted each time it is reached (what is shared counts as often as it is met; a slice's spare places count too). A statement '..UptoSaid' is the law's where the arguments, and the package variables that the reading takes, are together of bulk at most 1048576: NARROWER than '..Said'. Prove '..Said' where nothing that the law and all that it calls make is longer than what came in: it says more and counts as full. Else prove '..UptoSaid'. A law counts once. -/
mutual
def uptoBulk {H : Type} : DataW H → Nat
  | .lit (.string bytes) => bytes.length + 1
  | .lit _ => 1
  | .nil => 1
  | .ptr d => uptoBulk d + 1
  | .slice elems spare => uptoBulkAll elems + uptoBulkAll spare + 1
  | .agg parts => uptoBulkAll parts + 1
  | .iface _ d => uptoBulk d + 1
  | .map entries => uptoBulkEntries entries + 1
  | .held _ => 1
def uptoBulkAll {H : Type} : List (DataW H) → Nat
  | [] => 0
  | d :: r => uptoBulk d + uptoBulkAll r
def uptoBulkEntries {H : Type} : List (Lit × DataW H) → Nat
  | [] => 0
  | x :: r => uptoBulkEntry x + uptoBulkEntries r
def uptoBulkEntry {H : Type} : Lit × DataW H → Nat
  | (.string bytes, d) => bytes.length + uptoBulk d + 1
  | (_, d) => uptoBulk d + 1
 end
def uptoSmall : (H : Type) → List (DataW H) → Bool := fun _ ds => decide (uptoBulkAll ds ≤ 1048576)
def OpenSpec.upto (s : _root_.Go.ChangeSpec) : _root_.Go.OpenSpec := { _root_.Go.OpenSpec.ofChange s with cond := some uptoSmall }

/-- 'domicilelaw35.RevokeMatchesReference', WHERE WHAT IT READS IS OF BULK AT MOST 1048576: true; the input reads as it did. -/
def revokeMatchesReferenceUptoRow : OpenClaim := { program := "ytpoldplmaomkaaa", sum := "c17e9199f006ad8ea105e1ec531d5e3a5c876c44bbc1e706909589e7bb2376be", func := "domicile/domicilelaw35.RevokeMatchesReference", spec := "revokeMatchesReference", unfollowed := true, recurses := true, apart := false, narrowed := true }
def RevokeMatchesReferenceUptoSaid : Prop := revokeMatchesReferenceUptoRow.holds Try.pinned (OpenSpec.upto revokeMatchesReferenceSpec)

/-- 'domicilelaw35.RevokeSets', WHERE WHAT IT READS IS OF BULK AT MOST 1048576: true; the input reads as it did. -/
def revokeSetsUptoRow : OpenClaim := { program := "ytpoldplmaomkaaa", sum := "c17e9199f006ad8ea105e1ec531d5e3a5c876c44bbc1e706909589e7bb2376be", func := "domicile/domicilelaw35.RevokeSets", spec := "revokeSets", unfollowed := true, recurses := true, apart := false, narrowed := true }
def RevokeSetsUptoSaid : Prop := revokeSetsUptoRow.holds Try.pinned (OpenSpec.upto revokeSetsSpec)

/-- 'domicilelaw35.RevokeMerges', WHERE WHAT IT READS IS OF BULK AT MOST 1048576: true; the input reads as it did. -/
def revokeMergesUptoRow : OpenClaim := { program := "ytpoldplmaomkaaa", sum := "c17e9199f006ad8ea105e1ec531d5e3a5c876c44bbc1e706909589e7bb2376be", func := "domicile/domicilelaw35.RevokeMerges", spec := "revokeMerges", unfollowed := true, recurses := true, apart := false, narrowed := true }
def RevokeMergesUptoSaid : Prop := revokeMergesUptoRow.holds Try.pinned (OpenSpec.upto revokeMergesSpec)

/-- 'domicilelaw35.RevokeOrder', WHERE WHAT IT READS IS OF BULK AT MOST 1048576: true; the input reads as it did. -/
def revokeOrderUptoRow : OpenClaim := { program := "ytpoldplmaomkaaa", sum := "c17e9199f006ad8ea105e1ec531d5e3a5c876c44bbc1e706909589e7bb2376be", func := "domicile/domicilelaw35.RevokeOrder", spec := "revokeOrder", unfollowed := true, recurses := true, apart := false, narrowed := true }
def RevokeOrderUptoSaid : Prop := revokeOrderUptoRow.holds Try.pinned (OpenSpec.upto revokeOrderSpec)

/-- 'domicilelaw35.RevokeNarrowed', WHERE WHAT IT READS IS OF BULK AT MOST 1048576: true; the input reads as it did. -/
def revokeNarrowedUptoRow : OpenClaim := { program := "ytpoldplmaomkaaa", sum := "c17e9199f006ad8ea105e1ec531d5e3a5c876c44bbc1e706909589e7bb2376be", func := "domicile/domicilelaw35.RevokeNarrowed", spec := "revokeNarrowed", unfollowed := true, recurses := true, apart := false, narrowed := true }
def RevokeNarrowedUptoSaid : Prop := revokeNarrowedUptoRow.holds Try.pinned (OpenSpec.upto revokeNarrowedSpec)

/-- 'domicilelaw35.RevokeMore', WHERE WHAT IT READS IS OF BULK AT MOST 1048576: true; the input reads as it did. -/
def revokeMoreUptoRow : OpenClaim := { program := "ytpoldplmaomkaaa", sum := "c17e9199f006ad8ea105e1ec531d5e3a5c876c44bbc1e706909589e7bb2376be", func := "domicile/domicilelaw35.RevokeMore", spec := "revokeMore", unfollowed := true, recurses := true, apart := false, narrowed := true }
def RevokeMoreUptoSaid : Prop := revokeMoreUptoRow.holds Try.pinned (OpenSpec.upto revokeMoreSpec)

end Rows
end Go.Proofs.Ytpoldplmaomkaaa
