/-
  No cell of these rows narrows 'for every input' (looked for: loops, veiled, ifaces, maps, wideKeys, modest, calm, conditions, laid).
  DERIVED. THE GIVEN ROWS OF THIS SEAT. 8 by the template 'for every input the law returns true; each argument reads behind the call as it read before'; 0 by the template 'total and deterministic' (their statements: YtkmplekfcalggaaTotals.lean).
  GIVEN WITH THE SEED: the statements are not yours to turn. If you find one false, say at which input.
  Laid BY PROGRAM, IN A SANDBOX (cutbox-rows.mjs): the forced cells as the released guide's own fill.sh prints them over the translation b78ca747c3c31d73… (all of the seat's roots in one cut). By AI agents, Wed Nov 11 2026. No macro, syntax, notation, axiom, sorry.
-/
import Derived.Test.YtkmplekfcalggaaChecked
import GoSem.Claim
import GoSem.ClaimJoined
import GoSem.ClaimMapViews
import Derived.JoinedTies
import Derived.KernelRfl
namespace Go.Proofs.Ytkmplekfcalggaa
/- THE CELL 'sum', in the pinned program and in every row, IS THE sha256 OF THE DUMP (.gsa) THAT YtkmplekfcalggaaProg.lean LOADS. Nothing in Lean hashes anything: it is a label: what it is worth is what the hold of that sum in a sandbox is worth. -/
noncomputable def Try.pinned : Pinned := { name := "ytkmplekfcalggaa", sum := "b78ca747c3c31d737b79ce9d0a5351d1924295e89e1f152ef8f69526a3c34efb", checked := Try.checked }
namespace Rows
def none {H : Type} : Left H := { results := [], args := [] }

/-- 'domicilelaw27.CryptoMatchesReference': WHATEVER THE INPUT: true; the input reads as it did. -/
def cryptoMatchesReferenceSpec : ChangeSpec := { name := "cryptoMatchesReference", fn := fun _ => fun
  | [d1, d2, d3, d4, d5, d6, d7] => { results := [.lit (.bool true)], args := [d1, d2, d3, d4, d5, d6, d7] }
  | _ => none }
def cryptoMatchesReferenceRow : OpenClaim := { program := "ytkmplekfcalggaa", sum := "b78ca747c3c31d737b79ce9d0a5351d1924295e89e1f152ef8f69526a3c34efb", func := "domicile/domicilelaw27.CryptoMatchesReference", spec := "cryptoMatchesReference", unfollowed := true, recurses := true, apart := false }
def CryptoMatchesReferenceSaid : Prop := cryptoMatchesReferenceRow.holds Try.pinned (OpenSpec.ofChange cryptoMatchesReferenceSpec)

/-- ITS FALSE NEIGHBOUR: 'it returns false'. Refute it at one input. -/
def cryptoMatchesReferenceWrong : ChangeSpec := { name := "cryptoMatchesReference", fn := fun _ => fun
  | [d1, d2, d3, d4, d5, d6, d7] => { results := [.lit (.bool false)], args := [d1, d2, d3, d4, d5, d6, d7] }
  | _ => none }
def CryptoMatchesReferenceWrongFalsely : Prop := cryptoMatchesReferenceRow.holds Try.pinned (OpenSpec.ofChange cryptoMatchesReferenceWrong)

/-- 'domicilelaw27.CryptoDigests': WHATEVER THE INPUT: true; the input reads as it did. -/
def cryptoDigestsSpec : ChangeSpec := { name := "cryptoDigests", fn := fun _ => fun
  | [d1, d2, d3, d4] => { results := [.lit (.bool true)], args := [d1, d2, d3, d4] }
  | _ => none }
def cryptoDigestsRow : OpenClaim := { program := "ytkmplekfcalggaa", sum := "b78ca747c3c31d737b79ce9d0a5351d1924295e89e1f152ef8f69526a3c34efb", func := "domicile/domicilelaw27.CryptoDigests", spec := "cryptoDigests", unfollowed := true, recurses := true, apart := false }
def CryptoDigestsSaid : Prop := cryptoDigestsRow.holds Try.pinned (OpenSpec.ofChange cryptoDigestsSpec)

/-- ITS FALSE NEIGHBOUR: 'it returns false'. Refute it at one input. -/
def cryptoDigestsWrong : ChangeSpec := { name := "cryptoDigests", fn := fun _ => fun
  | [d1, d2, d3, d4] => { results := [.lit (.bool false)], args := [d1, d2, d3, d4] }
  | _ => none }
def CryptoDigestsWrongFalsely : Prop := cryptoDigestsRow.holds Try.pinned (OpenSpec.ofChange cryptoDigestsWrong)

/-- 'domicilelaw27.CryptoTags': WHATEVER THE INPUT: true; the input reads as it did. -/
def cryptoTagsSpec : ChangeSpec := { name := "cryptoTags", fn := fun _ => fun
  | [d1, d2, d3, d4, d5] => { results := [.lit (.bool true)], args := [d1, d2, d3, d4, d5] }
  | _ => none }
def cryptoTagsRow : OpenClaim := { program := "ytkmplekfcalggaa", sum := "b78ca747c3c31d737b79ce9d0a5351d1924295e89e1f152ef8f69526a3c34efb", func := "domicile/domicilelaw27.CryptoTags", spec := "cryptoTags", unfollowed := true, recurses := true, apart := false }
def CryptoTagsSaid : Prop := cryptoTagsRow.holds Try.pinned (OpenSpec.ofChange cryptoTagsSpec)

/-- ITS FALSE NEIGHBOUR: 'it returns false'. Refute it at one input. -/
def cryptoTagsWrong : ChangeSpec := { name := "cryptoTags", fn := fun _ => fun
  | [d1, d2, d3, d4, d5] => { results := [.lit (.bool false)], args := [d1, d2, d3, d4, d5] }
  | _ => none }
def CryptoTagsWrongFalsely : Prop := cryptoTagsRow.holds Try.pinned (OpenSpec.ofChange cryptoTagsWrong)

/-- 'domicilelaw27.CryptoKeys': WHATEVER THE INPUT: true; the input reads as it did. -/
def cryptoKeysSpec : ChangeSpec := { name := "cryptoKeys", fn := fun _ => fun
  | [d1, d2] => { results := [.lit (.bool true)], args := [d1, d2] }
  | _ => none }
def cryptoKeysRow : OpenClaim := { program := "ytkmplekfcalggaa", sum := "b78ca747c3c31d737b79ce9d0a5351d1924295e89e1f152ef8f69526a3c34efb", func := "domicile/domicilelaw27.CryptoKeys", spec := "cryptoKeys", unfollowed := true, recurses := true, apart := false }
def CryptoKeysSaid : Prop := cryptoKeysRow.holds Try.pinned (OpenSpec.ofChange cryptoKeysSpec)

/-- ITS FALSE NEIGHBOUR: 'it returns false'. Refute it at one input. -/
def cryptoKeysWrong : ChangeSpec := { name := "cryptoKeys", fn := fun _ => fun
  | [d1, d2] => { results := [.lit (.bool false)], args := [d1, d2] }
  | _ => none }
def CryptoKeysWrongFalsely : Prop := cryptoKeysRow.holds Try.pinned (OpenSpec.ofChange cryptoKeysWrong)

/-- 'domicilelaw27.CryptoTrees': WHATEVER THE INPUT: true; the input reads as it did. -/
def cryptoTreesSpec : ChangeSpec := { name := "cryptoTrees", fn := fun _ => fun
  | [d] => { results := [.lit (.bool true)], args := [d] }
  | _ => none }
def cryptoTreesRow : OpenClaim := { program := "ytkmplekfcalggaa", sum := "b78ca747c3c31d737b79ce9d0a5351d1924295e89e1f152ef8f69526a3c34efb", func := "domicile/domicilelaw27.CryptoTrees", spec := "cryptoTrees", unfollowed := true, recurses := true, apart := false }
def CryptoTreesSaid : Prop := cryptoTreesRow.holds Try.pinned (OpenSpec.ofChange cryptoTreesSpec)

/-- ITS FALSE NEIGHBOUR: 'it returns false'. Refute it at one input. -/
def cryptoTreesWrong : ChangeSpec := { name := "cryptoTrees", fn := fun _ => fun
  | [d] => { results := [.lit (.bool false)], args := [d] }
  | _ => none }
def CryptoTreesWrongFalsely : Prop := cryptoTreesRow.holds Try.pinned (OpenSpec.ofChange cryptoTreesWrong)

/-- 'domicilelaw27.CryptoPaths': WHATEVER THE INPUT: true; the input reads as it did. -/
def cryptoPathsSpec : ChangeSpec := { name := "cryptoPaths", fn := fun _ => fun
  | [d1, d2] => { results := [.lit (.bool true)], args := [d1, d2] }
  | _ => none }
def cryptoPathsRow : OpenClaim := { program := "ytkmplekfcalggaa", sum := "b78ca747c3c31d737b79ce9d0a5351d1924295e89e1f152ef8f69526a3c34efb", func := "domicile/domicilelaw27.CryptoPaths", spec := "cryptoPaths", unfollowed := true, recurses := true, apart := false }
def CryptoPathsSaid : Prop := cryptoPathsRow.holds Try.pinned (OpenSpec.ofChange cryptoPathsSpec)

/-- ITS FALSE NEIGHBOUR: 'it returns false'. Refute it at one input. -/
def cryptoPathsWrong : ChangeSpec := { name := "cryptoPaths", fn := fun _ => fun
  | [d1, d2] => { results := [.lit (.bool false)], args := [d1, d2] }
  | _ => none }
def CryptoPathsWrongFalsely : Prop := cryptoPathsRow.holds Try.pinned (OpenSpec.ofChange cryptoPathsWrong)

/-- 'domicilelaw27.CryptoProofs': WHATEVER THE INPUT: true; the input reads as it did. -/
def cryptoProofsSpec : ChangeSpec := { name := "cryptoProofs", fn := fun _ => fun
  | [d1, d2, d3, d4] => { results := [.lit (.bool true)], args := [d1, d2, d3, d4] }
  | _ => none }
def cryptoProofsRow : OpenClaim := { program := "ytkmplekfcalggaa", sum := "b78ca747c3c31d737b79ce9d0a5351d1924295e89e1f152ef8f69526a3c34efb", func := "domicile/domicilelaw27.CryptoProofs", spec := "cryptoProofs", unfollowed := true, recurses := true, apart := false }
def CryptoProofsSaid : Prop := cryptoProofsRow.holds Try.pinned (OpenSpec.ofChange cryptoProofsSpec)

/-- ITS FALSE NEIGHBOUR: 'it returns false'. Refute it at one input. -/
def cryptoProofsWrong : ChangeSpec := { name := "cryptoProofs", fn := fun _ => fun
  | [d1, d2, d3, d4] => { results := [.lit (.bool false)], args := [d1, d2, d3, d4] }
  | _ => none }
def CryptoProofsWrongFalsely : Prop := cryptoProofsRow.holds Try.pinned (OpenSpec.ofChange cryptoProofsWrong)

/-- 'domicilelaw27.CryptoOneList': WHATEVER THE INPUT: true; the input reads as it did. -/
def cryptoOneListSpec : ChangeSpec := { name := "cryptoOneList", fn := fun _ => fun
  | [d1, d2, d3] => { results := [.lit (.bool true)], args := [d1, d2, d3] }
  | _ => none }
def cryptoOneListRow : OpenClaim := { program := "ytkmplekfcalggaa", sum := "b78ca747c3c31d737b79ce9d0a5351d1924295e89e1f152ef8f69526a3c34efb", func := "domicile/domicilelaw27.CryptoOneList", spec := "cryptoOneList", unfollowed := true, recurses := true, apart := false }
def CryptoOneListSaid : Prop := cryptoOneListRow.holds Try.pinned (OpenSpec.ofChange cryptoOneListSpec)

/-- ITS FALSE NEIGHBOUR: 'it returns false'. Refute it at one input. -/
def cryptoOneListWrong : ChangeSpec := { name := "cryptoOneList", fn := fun _ => fun
  | [d1, d2, d3] => { results := [.lit (.bool false)], args := [d1, d2, d3] }
  | _ => none }
def CryptoOneListWrongFalsely : Prop := cryptoOneListRow.holds Try.pinned (OpenSpec.ofChange cryptoOneListWrong)

/- THE SECOND FORM. 'bulk': how many values and letters a reading holds, each counted each time it is reached (what is shared counts as often as it is met; a slice's spare places count too). A statement '..UptoSaid' is the law's where the arguments, and the package variables that the reading takes, are together of bulk at most 1048576: NARROWER than '..Said'. Prove '..Said' where nothing that the law and all that it calls make is longer than what came in: it says more and counts as full. Else prove '..UptoSaid'. A law counts once. -/
mutual
def uptoBulk {H : Type} : DataW H → Nat
  | .lit (.string bytes) => bytes.length + 1
  | .lit _ => 1
  | .nil => 1
  | .ptr d => uptoBulk d + 1
  | .slice elems spare => uptoBulkAll elems + uptoBulkAll spare + 1
  | .agg parts => uptoBulkAll parts + 1
  | .iface _ d => uptoBulk d + 1
  | .map entries => uptoBulkEntries entries + 1
  | .held _ => 1
def uptoBulkAll {H : Type} : List (DataW H) → Nat
  | [] => 0
  | d :: r => uptoBulk d + uptoBulkAll r
def uptoBulkEntries {H : Type} : List (Lit × DataW H) → Nat
  | [] => 0
  | x :: r => uptoBulkEntry x + uptoBulkEntries r
def uptoBulkEntry {H : Type} : Lit × DataW H → Nat
  | (.string bytes, d) => bytes.length + uptoBulk d + 1
  | (_, d) => uptoBulk d + 1
 end
def uptoSmall : (H : Type) → List (DataW H) → Bool := fun _ ds => decide (uptoBulkAll ds ≤ 1048576)
def OpenSpec.upto (s : _root_.Go.ChangeSpec) : _root_.Go.OpenSpec := { _root_.Go.OpenSpec.ofChange s with cond := some uptoSmall }

/-- 'domicilelaw27.CryptoMatchesReference', WHERE WHAT IT READS IS OF BULK AT MOST 1048576: true; the input reads as it did. -/
def cryptoMatchesReferenceUptoRow : OpenClaim := { program := "ytkmplekfcalggaa", sum := "b78ca747c3c31d737b79ce9d0a5351d1924295e89e1f152ef8f69526a3c34efb", func := "domicile/domicilelaw27.CryptoMatchesReference", spec := "cryptoMatchesReference", unfollowed := true, recurses := true, apart := false, narrowed := true }
def CryptoMatchesReferenceUptoSaid : Prop := cryptoMatchesReferenceUptoRow.holds Try.pinned (OpenSpec.upto cryptoMatchesReferenceSpec)

/-- 'domicilelaw27.CryptoDigests', WHERE WHAT IT READS IS OF BULK AT MOST 1048576: true; the input reads as it did. -/
def cryptoDigestsUptoRow : OpenClaim := { program := "ytkmplekfcalggaa", sum := "b78ca747c3c31d737b79ce9d0a5351d1924295e89e1f152ef8f69526a3c34efb", func := "domicile/domicilelaw27.CryptoDigests", spec := "cryptoDigests", unfollowed := true, recurses := true, apart := false, narrowed := true }
def CryptoDigestsUptoSaid : Prop := cryptoDigestsUptoRow.holds Try.pinned (OpenSpec.upto cryptoDigestsSpec)

/-- 'domicilelaw27.CryptoTags', WHERE WHAT IT READS IS OF BULK AT MOST 1048576: true; the input reads as it did. -/
def cryptoTagsUptoRow : OpenClaim := { program := "ytkmplekfcalggaa", sum := "b78ca747c3c31d737b79ce9d0a5351d1924295e89e1f152ef8f69526a3c34efb", func := "domicile/domicilelaw27.CryptoTags", spec := "cryptoTags", unfollowed := true, recurses := true, apart := false, narrowed := true }
def CryptoTagsUptoSaid : Prop := cryptoTagsUptoRow.holds Try.pinned (OpenSpec.upto cryptoTagsSpec)

/-- 'domicilelaw27.CryptoKeys', WHERE WHAT IT READS IS OF BULK AT MOST 1048576: true; the input reads as it did. -/
def cryptoKeysUptoRow : OpenClaim := { program := "ytkmplekfcalggaa", sum := "b78ca747c3c31d737b79ce9d0a5351d1924295e89e1f152ef8f69526a3c34efb", func := "domicile/domicilelaw27.CryptoKeys", spec := "cryptoKeys", unfollowed := true, recurses := true, apart := false, narrowed := true }
def CryptoKeysUptoSaid : Prop := cryptoKeysUptoRow.holds Try.pinned (OpenSpec.upto cryptoKeysSpec)

/-- 'domicilelaw27.CryptoTrees', WHERE WHAT IT READS IS OF BULK AT MOST 1048576: true; the input reads as it did. -/
def cryptoTreesUptoRow : OpenClaim := { program := "ytkmplekfcalggaa", sum := "b78ca747c3c31d737b79ce9d0a5351d1924295e89e1f152ef8f69526a3c34efb", func := "domicile/domicilelaw27.CryptoTrees", spec := "cryptoTrees", unfollowed := true, recurses := true, apart := false, narrowed := true }
def CryptoTreesUptoSaid : Prop := cryptoTreesUptoRow.holds Try.pinned (OpenSpec.upto cryptoTreesSpec)

/-- 'domicilelaw27.CryptoPaths', WHERE WHAT IT READS IS OF BULK AT MOST 1048576: true; the input reads as it did. -/
def cryptoPathsUptoRow : OpenClaim := { program := "ytkmplekfcalggaa", sum := "b78ca747c3c31d737b79ce9d0a5351d1924295e89e1f152ef8f69526a3c34efb", func := "domicile/domicilelaw27.CryptoPaths", spec := "cryptoPaths", unfollowed := true, recurses := true, apart := false, narrowed := true }
def CryptoPathsUptoSaid : Prop := cryptoPathsUptoRow.holds Try.pinned (OpenSpec.upto cryptoPathsSpec)

/-- 'domicilelaw27.CryptoProofs', WHERE WHAT IT READS IS OF BULK AT MOST 1048576: true; the input reads as it did. -/
def cryptoProofsUptoRow : OpenClaim := { program := "ytkmplekfcalggaa", sum := "b78ca747c3c31d737b79ce9d0a5351d1924295e89e1f152ef8f69526a3c34efb", func := "domicile/domicilelaw27.CryptoProofs", spec := "cryptoProofs", unfollowed := true, recurses := true, apart := false, narrowed := true }
def CryptoProofsUptoSaid : Prop := cryptoProofsUptoRow.holds Try.pinned (OpenSpec.upto cryptoProofsSpec)

/-- 'domicilelaw27.CryptoOneList', WHERE WHAT IT READS IS OF BULK AT MOST 1048576: true; the input reads as it did. -/
def cryptoOneListUptoRow : OpenClaim := { program := "ytkmplekfcalggaa", sum := "b78ca747c3c31d737b79ce9d0a5351d1924295e89e1f152ef8f69526a3c34efb", func := "domicile/domicilelaw27.CryptoOneList", spec := "cryptoOneList", unfollowed := true, recurses := true, apart := false, narrowed := true }
def CryptoOneListUptoSaid : Prop := cryptoOneListUptoRow.holds Try.pinned (OpenSpec.upto cryptoOneListSpec)

end Rows
end Go.Proofs.Ytkmplekfcalggaa
