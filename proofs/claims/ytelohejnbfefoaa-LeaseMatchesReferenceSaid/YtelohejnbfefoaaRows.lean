/-
  No cell of these rows narrows 'for every input' (looked for: loops, veiled, ifaces, maps, wideKeys, modest, calm, conditions, laid).
  DERIVED. THE GIVEN ROWS OF THIS SEAT. 6 by the template 'for every input the law returns true; each argument reads behind the call as it read before'; 0 by the template 'total and deterministic' (their statements: YtelohejnbfefoaaTotals.lean).
  GIVEN WITH THE SEED: the statements are not yours to turn. If you find one false, say at which input.
  Laid BY PROGRAM, IN A SANDBOX (cutbox-rows.mjs): the forced cells as the released guide's own fill.sh prints them over the translation 74066d2553aa6f29… (all of the seat's roots in one cut). By AI agents, Wed Nov 11 2026. No macro, syntax, notation, axiom, sorry.
-/
import Derived.Test.YtelohejnbfefoaaChecked
import GoSem.Claim
import GoSem.ClaimJoined
import GoSem.ClaimMapViews
import Derived.JoinedTies
import Derived.KernelRfl
namespace Go.Proofs.Ytelohejnbfefoaa
/- THE CELL 'sum', in the pinned program and in every row, IS THE sha256 OF THE DUMP (.gsa) THAT YtelohejnbfefoaaProg.lean LOADS. Nothing in Lean hashes anything: it is a label: what it is worth is what the hold of that sum in a sandbox is worth. -/
noncomputable def Try.pinned : Pinned := { name := "ytelohejnbfefoaa", sum := "74066d2553aa6f2910a72350df3f73e60b50a5f2ff6bac08cca78664b7e80f18", checked := Try.checked }
namespace Rows
def none {H : Type} : Left H := { results := [], args := [] }

/-- 'domicilelaw38.LeaseMatchesReference': WHATEVER THE INPUT: true; the input reads as it did. -/
def leaseMatchesReferenceSpec : ChangeSpec := { name := "leaseMatchesReference", fn := fun _ => fun
  | [d1, d2, d3, d4, d5, d6, d7] => { results := [.lit (.bool true)], args := [d1, d2, d3, d4, d5, d6, d7] }
  | _ => none }
def leaseMatchesReferenceRow : OpenClaim := { program := "ytelohejnbfefoaa", sum := "74066d2553aa6f2910a72350df3f73e60b50a5f2ff6bac08cca78664b7e80f18", func := "domicile/domicilelaw38.LeaseMatchesReference", spec := "leaseMatchesReference", unfollowed := true, recurses := true, apart := false }
def LeaseMatchesReferenceSaid : Prop := leaseMatchesReferenceRow.holds Try.pinned (OpenSpec.ofChange leaseMatchesReferenceSpec)

/-- ITS FALSE NEIGHBOUR: 'it returns false'. Refute it at one input. -/
def leaseMatchesReferenceWrong : ChangeSpec := { name := "leaseMatchesReference", fn := fun _ => fun
  | [d1, d2, d3, d4, d5, d6, d7] => { results := [.lit (.bool false)], args := [d1, d2, d3, d4, d5, d6, d7] }
  | _ => none }
def LeaseMatchesReferenceWrongFalsely : Prop := leaseMatchesReferenceRow.holds Try.pinned (OpenSpec.ofChange leaseMatchesReferenceWrong)

/-- 'domicilelaw38.LeaseVotes': WHATEVER THE INPUT: true; the input reads as it did. -/
def leaseVotesSpec : ChangeSpec := { name := "leaseVotes", fn := fun _ => fun
  | [d1, d2, d3] => { results := [.lit (.bool true)], args := [d1, d2, d3] }
  | _ => none }
def leaseVotesRow : OpenClaim := { program := "ytelohejnbfefoaa", sum := "74066d2553aa6f2910a72350df3f73e60b50a5f2ff6bac08cca78664b7e80f18", func := "domicile/domicilelaw38.LeaseVotes", spec := "leaseVotes", unfollowed := true, recurses := true, apart := false }
def LeaseVotesSaid : Prop := leaseVotesRow.holds Try.pinned (OpenSpec.ofChange leaseVotesSpec)

/-- ITS FALSE NEIGHBOUR: 'it returns false'. Refute it at one input. -/
def leaseVotesWrong : ChangeSpec := { name := "leaseVotes", fn := fun _ => fun
  | [d1, d2, d3] => { results := [.lit (.bool false)], args := [d1, d2, d3] }
  | _ => none }
def LeaseVotesWrongFalsely : Prop := leaseVotesRow.holds Try.pinned (OpenSpec.ofChange leaseVotesWrong)

/-- 'domicilelaw38.LeaseFences': WHATEVER THE INPUT: true; the input reads as it did. -/
def leaseFencesSpec : ChangeSpec := { name := "leaseFences", fn := fun _ => fun
  | [d1, d2] => { results := [.lit (.bool true)], args := [d1, d2] }
  | _ => none }
def leaseFencesRow : OpenClaim := { program := "ytelohejnbfefoaa", sum := "74066d2553aa6f2910a72350df3f73e60b50a5f2ff6bac08cca78664b7e80f18", func := "domicile/domicilelaw38.LeaseFences", spec := "leaseFences", unfollowed := true, recurses := true, apart := false }
def LeaseFencesSaid : Prop := leaseFencesRow.holds Try.pinned (OpenSpec.ofChange leaseFencesSpec)

/-- ITS FALSE NEIGHBOUR: 'it returns false'. Refute it at one input. -/
def leaseFencesWrong : ChangeSpec := { name := "leaseFences", fn := fun _ => fun
  | [d1, d2] => { results := [.lit (.bool false)], args := [d1, d2] }
  | _ => none }
def LeaseFencesWrongFalsely : Prop := leaseFencesRow.holds Try.pinned (OpenSpec.ofChange leaseFencesWrong)

/-- 'domicilelaw38.LeaseOne': WHATEVER THE INPUT: true; the input reads as it did. -/
def leaseOneSpec : ChangeSpec := { name := "leaseOne", fn := fun _ => fun
  | [d1, d2, d3] => { results := [.lit (.bool true)], args := [d1, d2, d3] }
  | _ => none }
def leaseOneRow : OpenClaim := { program := "ytelohejnbfefoaa", sum := "74066d2553aa6f2910a72350df3f73e60b50a5f2ff6bac08cca78664b7e80f18", func := "domicile/domicilelaw38.LeaseOne", spec := "leaseOne", unfollowed := true, recurses := true, apart := false }
def LeaseOneSaid : Prop := leaseOneRow.holds Try.pinned (OpenSpec.ofChange leaseOneSpec)

/-- ITS FALSE NEIGHBOUR: 'it returns false'. Refute it at one input. -/
def leaseOneWrong : ChangeSpec := { name := "leaseOne", fn := fun _ => fun
  | [d1, d2, d3] => { results := [.lit (.bool false)], args := [d1, d2, d3] }
  | _ => none }
def LeaseOneWrongFalsely : Prop := leaseOneRow.holds Try.pinned (OpenSpec.ofChange leaseOneWrong)

/-- 'domicilelaw38.LeaseMajorities': WHATEVER THE INPUT: true; the input reads as it did. -/
def leaseMajoritiesSpec : ChangeSpec := { name := "leaseMajorities", fn := fun _ => fun
  | [d1, d2, d3, d4, d5] => { results := [.lit (.bool true)], args := [d1, d2, d3, d4, d5] }
  | _ => none }
def leaseMajoritiesRow : OpenClaim := { program := "ytelohejnbfefoaa", sum := "74066d2553aa6f2910a72350df3f73e60b50a5f2ff6bac08cca78664b7e80f18", func := "domicile/domicilelaw38.LeaseMajorities", spec := "leaseMajorities", unfollowed := true, recurses := true, apart := false }
def LeaseMajoritiesSaid : Prop := leaseMajoritiesRow.holds Try.pinned (OpenSpec.ofChange leaseMajoritiesSpec)

/-- ITS FALSE NEIGHBOUR: 'it returns false'. Refute it at one input. -/
def leaseMajoritiesWrong : ChangeSpec := { name := "leaseMajorities", fn := fun _ => fun
  | [d1, d2, d3, d4, d5] => { results := [.lit (.bool false)], args := [d1, d2, d3, d4, d5] }
  | _ => none }
def LeaseMajoritiesWrongFalsely : Prop := leaseMajoritiesRow.holds Try.pinned (OpenSpec.ofChange leaseMajoritiesWrong)

/-- 'domicilelaw38.LeaseWaits': WHATEVER THE INPUT: true; the input reads as it did. -/
def leaseWaitsSpec : ChangeSpec := { name := "leaseWaits", fn := fun _ => fun
  | [d1, d2, d3] => { results := [.lit (.bool true)], args := [d1, d2, d3] }
  | _ => none }
def leaseWaitsRow : OpenClaim := { program := "ytelohejnbfefoaa", sum := "74066d2553aa6f2910a72350df3f73e60b50a5f2ff6bac08cca78664b7e80f18", func := "domicile/domicilelaw38.LeaseWaits", spec := "leaseWaits", unfollowed := true, recurses := true, apart := false }
def LeaseWaitsSaid : Prop := leaseWaitsRow.holds Try.pinned (OpenSpec.ofChange leaseWaitsSpec)

/-- ITS FALSE NEIGHBOUR: 'it returns false'. Refute it at one input. -/
def leaseWaitsWrong : ChangeSpec := { name := "leaseWaits", fn := fun _ => fun
  | [d1, d2, d3] => { results := [.lit (.bool false)], args := [d1, d2, d3] }
  | _ => none }
def LeaseWaitsWrongFalsely : Prop := leaseWaitsRow.holds Try.pinned (OpenSpec.ofChange leaseWaitsWrong)

/- THE SECOND FORM. 'bulk': how many values and letters a reading holds, each counted each time it is reached (what is shared counts as often as it is met; a slice's spare places count too). A statement '..UptoSaid' is the law's where the arguments, and the package variables that the reading takes, are together of bulk at most 1048576: NARROWER than '..Said'. Prove '..Said' where nothing that the law and all that it calls make is longer than what came in: it says more and counts as full. Else prove '..UptoSaid'. A law counts once. -/
mutual
def uptoBulk {H : Type} : DataW H → Nat
  | .lit (.string bytes) => bytes.length + 1
  | .lit _ => 1
  | .nil => 1
  | .ptr d => uptoBulk d + 1
  | .slice elems spare => uptoBulkAll elems + uptoBulkAll spare + 1
  | .agg parts => uptoBulkAll parts + 1
  | .iface _ d => uptoBulk d + 1
  | .map entries => uptoBulkEntries entries + 1
  | .held _ => 1
def uptoBulkAll {H : Type} : List (DataW H) → Nat
  | [] => 0
  | d :: r => uptoBulk d + uptoBulkAll r
def uptoBulkEntries {H : Type} : List (Lit × DataW H) → Nat
  | [] => 0
  | x :: r => uptoBulkEntry x + uptoBulkEntries r
def uptoBulkEntry {H : Type} : Lit × DataW H → Nat
  | (.string bytes, d) => bytes.length + uptoBulk d + 1
  | (_, d) => uptoBulk d + 1
 end
def uptoSmall : (H : Type) → List (DataW H) → Bool := fun _ ds => decide (uptoBulkAll ds ≤ 1048576)
def OpenSpec.upto (s : _root_.Go.ChangeSpec) : _root_.Go.OpenSpec := { _root_.Go.OpenSpec.ofChange s with cond := some uptoSmall }

/-- 'domicilelaw38.LeaseMatchesReference', WHERE WHAT IT READS IS OF BULK AT MOST 1048576: true; the input reads as it did. -/
def leaseMatchesReferenceUptoRow : OpenClaim := { program := "ytelohejnbfefoaa", sum := "74066d2553aa6f2910a72350df3f73e60b50a5f2ff6bac08cca78664b7e80f18", func := "domicile/domicilelaw38.LeaseMatchesReference", spec := "leaseMatchesReference", unfollowed := true, recurses := true, apart := false, narrowed := true }
def LeaseMatchesReferenceUptoSaid : Prop := leaseMatchesReferenceUptoRow.holds Try.pinned (OpenSpec.upto leaseMatchesReferenceSpec)

/-- 'domicilelaw38.LeaseVotes', WHERE WHAT IT READS IS OF BULK AT MOST 1048576: true; the input reads as it did. -/
def leaseVotesUptoRow : OpenClaim := { program := "ytelohejnbfefoaa", sum := "74066d2553aa6f2910a72350df3f73e60b50a5f2ff6bac08cca78664b7e80f18", func := "domicile/domicilelaw38.LeaseVotes", spec := "leaseVotes", unfollowed := true, recurses := true, apart := false, narrowed := true }
def LeaseVotesUptoSaid : Prop := leaseVotesUptoRow.holds Try.pinned (OpenSpec.upto leaseVotesSpec)

/-- 'domicilelaw38.LeaseFences', WHERE WHAT IT READS IS OF BULK AT MOST 1048576: true; the input reads as it did. -/
def leaseFencesUptoRow : OpenClaim := { program := "ytelohejnbfefoaa", sum := "74066d2553aa6f2910a72350df3f73e60b50a5f2ff6bac08cca78664b7e80f18", func := "domicile/domicilelaw38.LeaseFences", spec := "leaseFences", unfollowed := true, recurses := true, apart := false, narrowed := true }
def LeaseFencesUptoSaid : Prop := leaseFencesUptoRow.holds Try.pinned (OpenSpec.upto leaseFencesSpec)

/-- 'domicilelaw38.LeaseOne', WHERE WHAT IT READS IS OF BULK AT MOST 1048576: true; the input reads as it did. -/
def leaseOneUptoRow : OpenClaim := { program := "ytelohejnbfefoaa", sum := "74066d2553aa6f2910a72350df3f73e60b50a5f2ff6bac08cca78664b7e80f18", func := "domicile/domicilelaw38.LeaseOne", spec := "leaseOne", unfollowed := true, recurses := true, apart := false, narrowed := true }
def LeaseOneUptoSaid : Prop := leaseOneUptoRow.holds Try.pinned (OpenSpec.upto leaseOneSpec)

/-- 'domicilelaw38.LeaseMajorities', WHERE WHAT IT READS IS OF BULK AT MOST 1048576: true; the input reads as it did. -/
def leaseMajoritiesUptoRow : OpenClaim := { program := "ytelohejnbfefoaa", sum := "74066d2553aa6f2910a72350df3f73e60b50a5f2ff6bac08cca78664b7e80f18", func := "domicile/domicilelaw38.LeaseMajorities", spec := "leaseMajorities", unfollowed := true, recurses := true, apart := false, narrowed := true }
def LeaseMajoritiesUptoSaid : Prop := leaseMajoritiesUptoRow.holds Try.pinned (OpenSpec.upto leaseMajoritiesSpec)

/-- 'domicilelaw38.LeaseWaits', WHERE WHAT IT READS IS OF BULK AT MOST 1048576: true; the input reads as it did. -/
def leaseWaitsUptoRow : OpenClaim := { program := "ytelohejnbfefoaa", sum := "74066d2553aa6f2910a72350df3f73e60b50a5f2ff6bac08cca78664b7e80f18", func := "domicile/domicilelaw38.LeaseWaits", spec := "leaseWaits", unfollowed := true, recurses := true, apart := false, narrowed := true }
def LeaseWaitsUptoSaid : Prop := leaseWaitsUptoRow.holds Try.pinned (OpenSpec.upto leaseWaitsSpec)

end Rows
end Go.Proofs.Ytelohejnbfefoaa
