/-
  NARROWER THAN 'FOR EVERY INPUT', by the rows' own cells (each row's printed sentence says how): LexerCovers: laid · LexerAgain: laid · LexerJoins: laid · LexerFirstError: laid · LexerValues: laid · LexerGaps: laid.
  DERIVED. THE GIVEN ROWS OF THIS SEAT. 6 by the template 'for every input the law returns true; each argument reads behind the call as it read before'; 0 by the template 'total and deterministic' (their statements: YtaokedpcijmncaaDoorTotals.lean).
  GIVEN WITH THE SEED: the statements are not yours to turn. If you find one false, say at which input.
  Laid BY PROGRAM, IN A SANDBOX (cutbox-rows.mjs): the forced cells as the released guide's own fill.sh prints them over the translation 6a79125a6be55701… (all of the seat's roots in one cut). By AI agents, Wed Nov 11 2026. No macro, syntax, notation, axiom, sorry.
-/
import Derived.Test.YtaokedpcijmncaaDoorChecked
import GoSem.Claim
import GoSem.ClaimJoined
import GoSem.ClaimMapViews
import Derived.JoinedTies
import Derived.KernelRfl
namespace Go.Proofs.YtaokedpcijmncaaDoor
/- THE CELL 'sum', in the pinned program and in every row, IS THE sha256 OF THE DUMP (.gsa) THAT YtaokedpcijmncaaDoorProg.lean LOADS. Nothing in Lean hashes anything: it is a label: what it is worth is what the hold of that sum in a sandbox is worth. -/
noncomputable def Tryd.pinned : Pinned := { name := "ytaokedpcijmncaadoor", sum := "6a79125a6be55701ac5ca651e287c2d8ca6f2c597697e9bb804e66731695ea5f", checked := Tryd.checked }
namespace Rows
def none {H : Type} : Left H := { results := [], args := [] }

/- WHAT THE LISTED PACKAGE-LEVEL VARIABLES READ AS WHEN THE CALL BEGINS. Each datum BY PROGRAM (the guide's laid-datum.mjs) off the statement by which the dump's own 'gosem.cut.vars' lays the variable. In a bare row this is a premise. The card (YtaokedpcijmncaaDoorCards.lean) ties it to the program's text. -/
def laid_domicile_lexer_byteKinds {H : Type} : DataW H := .agg [.lit (.int .u8 0), .lit (.int .u8 0), .lit (.int .u8 0), .lit (.int .u8 0), .lit (.int .u8 0), .lit (.int .u8 0), .lit (.int .u8 0), .lit (.int .u8 0), .lit (.int .u8 0), .lit (.int .u8 16), .lit (.int .u8 16), .lit (.int .u8 0), .lit (.int .u8 0), .lit (.int .u8 0), .lit (.int .u8 0), .lit (.int .u8 0), .lit (.int .u8 0), .lit (.int .u8 0), .lit (.int .u8 0), .lit (.int .u8 0), .lit (.int .u8 0), .lit (.int .u8 0), .lit (.int .u8 0), .lit (.int .u8 0), .lit (.int .u8 0), .lit (.int .u8 0), .lit (.int .u8 0), .lit (.int .u8 0), .lit (.int .u8 0), .lit (.int .u8 0), .lit (.int .u8 0), .lit (.int .u8 0), .lit (.int .u8 16), .lit (.int .u8 0), .lit (.int .u8 0), .lit (.int .u8 32), .lit (.int .u8 0), .lit (.int .u8 8), .lit (.int .u8 0), .lit (.int .u8 0), .lit (.int .u8 0), .lit (.int .u8 0), .lit (.int .u8 0), .lit (.int .u8 0), .lit (.int .u8 8), .lit (.int .u8 8), .lit (.int .u8 8), .lit (.int .u8 0), .lit (.int .u8 2), .lit (.int .u8 2), .lit (.int .u8 2), .lit (.int .u8 2), .lit (.int .u8 2), .lit (.int .u8 2), .lit (.int .u8 2), .lit (.int .u8 2), .lit (.int .u8 2), .lit (.int .u8 2), .lit (.int .u8 8), .lit (.int .u8 8), .lit (.int .u8 8), .lit (.int .u8 8), .lit (.int .u8 8), .lit (.int .u8 0), .lit (.int .u8 0), .lit (.int .u8 1), .lit (.int .u8 1), .lit (.int .u8 1), .lit (.int .u8 1), .lit (.int .u8 1), .lit (.int .u8 1), .lit (.int .u8 1), .lit (.int .u8 1), .lit (.int .u8 1), .lit (.int .u8 1), .lit (.int .u8 1), .lit (.int .u8 1), .lit (.int .u8 1), .lit (.int .u8 1), .lit (.int .u8 1), .lit (.int .u8 1), .lit (.int .u8 1), .lit (.int .u8 1), .lit (.int .u8 1), .lit (.int .u8 1), .lit (.int .u8 1), .lit (.int .u8 1), .lit (.int .u8 1), .lit (.int .u8 1), .lit (.int .u8 1), .lit (.int .u8 1), .lit (.int .u8 0), .lit (.int .u8 0), .lit (.int .u8 0), .lit (.int .u8 0), .lit (.int .u8 4), .lit (.int .u8 0), .lit (.int .u8 1), .lit (.int .u8 1), .lit (.int .u8 1), .lit (.int .u8 1), .lit (.int .u8 1), .lit (.int .u8 1), .lit (.int .u8 1), .lit (.int .u8 1), .lit (.int .u8 1), .lit (.int .u8 1), .lit (.int .u8 1), .lit (.int .u8 1), .lit (.int .u8 1), .lit (.int .u8 1), .lit (.int .u8 1), .lit (.int .u8 1), .lit (.int .u8 1), .lit (.int .u8 1), .lit (.int .u8 1), .lit (.int .u8 1), .lit (.int .u8 1), .lit (.int .u8 1), .lit (.int .u8 1), .lit (.int .u8 1), .lit (.int .u8 1), .lit (.int .u8 1), .lit (.int .u8 8), .lit (.int .u8 0), .lit (.int .u8 8), .lit (.int .u8 0), .lit (.int .u8 0)]

/-- 'domicilelaw01.LexerCovers': WHATEVER THE INPUT: true; the input reads as it did. -/
def lexerCoversSpec : ChangeSpec := { name := "lexerCovers", fn := fun _ => fun
  | [d] => { results := [.lit (.bool true)], args := [d] }
  | _ => none }
def lexerCoversRow : OpenClaim := { program := "ytaokedpcijmncaadoor", sum := "6a79125a6be55701ac5ca651e287c2d8ca6f2c597697e9bb804e66731695ea5f", func := "domicile/domicilelaw01.LexerCovers", spec := "lexerCovers", inPlace := ["internal/bytealg.IndexByteString"], unfollowed := true, recurses := true, named := ["domicile/lexer.byteKinds"], apart := false, laid := [("domicile/lexer.byteKinds", laid_domicile_lexer_byteKinds)] }
def LexerCoversSaid : Prop := lexerCoversRow.holds Tryd.pinned (OpenSpec.ofChange lexerCoversSpec)

/-- ITS FALSE NEIGHBOUR: 'it returns false'. Refute it at one input. -/
def lexerCoversWrong : ChangeSpec := { name := "lexerCovers", fn := fun _ => fun
  | [d] => { results := [.lit (.bool false)], args := [d] }
  | _ => none }
def LexerCoversWrongFalsely : Prop := lexerCoversRow.holds Tryd.pinned (OpenSpec.ofChange lexerCoversWrong)

/-- 'domicilelaw01.LexerAgain': WHATEVER THE INPUT: true; the input reads as it did. -/
def lexerAgainSpec : ChangeSpec := { name := "lexerAgain", fn := fun _ => fun
  | [d] => { results := [.lit (.bool true)], args := [d] }
  | _ => none }
def lexerAgainRow : OpenClaim := { program := "ytaokedpcijmncaadoor", sum := "6a79125a6be55701ac5ca651e287c2d8ca6f2c597697e9bb804e66731695ea5f", func := "domicile/domicilelaw01.LexerAgain", spec := "lexerAgain", inPlace := ["internal/bytealg.IndexByteString"], unfollowed := true, recurses := true, named := ["domicile/lexer.byteKinds"], apart := false, laid := [("domicile/lexer.byteKinds", laid_domicile_lexer_byteKinds)] }
def LexerAgainSaid : Prop := lexerAgainRow.holds Tryd.pinned (OpenSpec.ofChange lexerAgainSpec)

/-- ITS FALSE NEIGHBOUR: 'it returns false'. Refute it at one input. -/
def lexerAgainWrong : ChangeSpec := { name := "lexerAgain", fn := fun _ => fun
  | [d] => { results := [.lit (.bool false)], args := [d] }
  | _ => none }
def LexerAgainWrongFalsely : Prop := lexerAgainRow.holds Tryd.pinned (OpenSpec.ofChange lexerAgainWrong)

/-- 'domicilelaw01.LexerJoins': WHATEVER THE INPUT: true; the input reads as it did. -/
def lexerJoinsSpec : ChangeSpec := { name := "lexerJoins", fn := fun _ => fun
  | [d1, d2] => { results := [.lit (.bool true)], args := [d1, d2] }
  | _ => none }
def lexerJoinsRow : OpenClaim := { program := "ytaokedpcijmncaadoor", sum := "6a79125a6be55701ac5ca651e287c2d8ca6f2c597697e9bb804e66731695ea5f", func := "domicile/domicilelaw01.LexerJoins", spec := "lexerJoins", inPlace := ["internal/bytealg.IndexByteString"], unfollowed := true, recurses := true, named := ["domicile/lexer.byteKinds"], apart := false, laid := [("domicile/lexer.byteKinds", laid_domicile_lexer_byteKinds)] }
def LexerJoinsSaid : Prop := lexerJoinsRow.holds Tryd.pinned (OpenSpec.ofChange lexerJoinsSpec)

/-- ITS FALSE NEIGHBOUR: 'it returns false'. Refute it at one input. -/
def lexerJoinsWrong : ChangeSpec := { name := "lexerJoins", fn := fun _ => fun
  | [d1, d2] => { results := [.lit (.bool false)], args := [d1, d2] }
  | _ => none }
def LexerJoinsWrongFalsely : Prop := lexerJoinsRow.holds Tryd.pinned (OpenSpec.ofChange lexerJoinsWrong)

/-- 'domicilelaw01.LexerFirstError': WHATEVER THE INPUT: true; the input reads as it did. -/
def lexerFirstErrorSpec : ChangeSpec := { name := "lexerFirstError", fn := fun _ => fun
  | [d1, d2] => { results := [.lit (.bool true)], args := [d1, d2] }
  | _ => none }
def lexerFirstErrorRow : OpenClaim := { program := "ytaokedpcijmncaadoor", sum := "6a79125a6be55701ac5ca651e287c2d8ca6f2c597697e9bb804e66731695ea5f", func := "domicile/domicilelaw01.LexerFirstError", spec := "lexerFirstError", inPlace := ["internal/bytealg.IndexByteString"], unfollowed := true, recurses := true, named := ["domicile/lexer.byteKinds"], apart := false, laid := [("domicile/lexer.byteKinds", laid_domicile_lexer_byteKinds)] }
def LexerFirstErrorSaid : Prop := lexerFirstErrorRow.holds Tryd.pinned (OpenSpec.ofChange lexerFirstErrorSpec)

/-- ITS FALSE NEIGHBOUR: 'it returns false'. Refute it at one input. -/
def lexerFirstErrorWrong : ChangeSpec := { name := "lexerFirstError", fn := fun _ => fun
  | [d1, d2] => { results := [.lit (.bool false)], args := [d1, d2] }
  | _ => none }
def LexerFirstErrorWrongFalsely : Prop := lexerFirstErrorRow.holds Tryd.pinned (OpenSpec.ofChange lexerFirstErrorWrong)

/-- 'domicilelaw01.LexerValues': WHATEVER THE INPUT: true; the input reads as it did. -/
def lexerValuesSpec : ChangeSpec := { name := "lexerValues", fn := fun _ => fun
  | [d1, d2, d3] => { results := [.lit (.bool true)], args := [d1, d2, d3] }
  | _ => none }
def lexerValuesRow : OpenClaim := { program := "ytaokedpcijmncaadoor", sum := "6a79125a6be55701ac5ca651e287c2d8ca6f2c597697e9bb804e66731695ea5f", func := "domicile/domicilelaw01.LexerValues", spec := "lexerValues", inPlace := ["internal/bytealg.IndexByteString"], unfollowed := true, recurses := true, named := ["domicile/lexer.byteKinds"], apart := false, laid := [("domicile/lexer.byteKinds", laid_domicile_lexer_byteKinds)] }
def LexerValuesSaid : Prop := lexerValuesRow.holds Tryd.pinned (OpenSpec.ofChange lexerValuesSpec)

/-- ITS FALSE NEIGHBOUR: 'it returns false'. Refute it at one input. -/
def lexerValuesWrong : ChangeSpec := { name := "lexerValues", fn := fun _ => fun
  | [d1, d2, d3] => { results := [.lit (.bool false)], args := [d1, d2, d3] }
  | _ => none }
def LexerValuesWrongFalsely : Prop := lexerValuesRow.holds Tryd.pinned (OpenSpec.ofChange lexerValuesWrong)

/-- 'domicilelaw01.LexerGaps': WHATEVER THE INPUT: true; the input reads as it did. -/
def lexerGapsSpec : ChangeSpec := { name := "lexerGaps", fn := fun _ => fun
  | [d1, d2] => { results := [.lit (.bool true)], args := [d1, d2] }
  | _ => none }
def lexerGapsRow : OpenClaim := { program := "ytaokedpcijmncaadoor", sum := "6a79125a6be55701ac5ca651e287c2d8ca6f2c597697e9bb804e66731695ea5f", func := "domicile/domicilelaw01.LexerGaps", spec := "lexerGaps", inPlace := ["internal/bytealg.IndexByteString"], unfollowed := true, recurses := true, named := ["domicile/lexer.byteKinds"], apart := false, laid := [("domicile/lexer.byteKinds", laid_domicile_lexer_byteKinds)] }
def LexerGapsSaid : Prop := lexerGapsRow.holds Tryd.pinned (OpenSpec.ofChange lexerGapsSpec)

/-- ITS FALSE NEIGHBOUR: 'it returns false'. Refute it at one input. -/
def lexerGapsWrong : ChangeSpec := { name := "lexerGaps", fn := fun _ => fun
  | [d1, d2] => { results := [.lit (.bool false)], args := [d1, d2] }
  | _ => none }
def LexerGapsWrongFalsely : Prop := lexerGapsRow.holds Tryd.pinned (OpenSpec.ofChange lexerGapsWrong)

/- THE SECOND FORM. 'bulk': how many values and letters a reading holds, each counted each time it is reached (what is shared counts as often as it is met; a slice's spare places count too). A statement '..UptoSaid' is the law's where the arguments, and the package variables that the reading takes, are together of bulk at most 1048576: NARROWER than '..Said'. Prove '..Said' where nothing that the law and all that it calls make is longer than what came in: it says more and counts as full. Else prove '..UptoSaid'. A law counts once. -/
mutual
def uptoBulk {H : Type} : DataW H → Nat
  | .lit (.string bytes) => bytes.length + 1
  | .lit _ => 1
  | .nil => 1
  | .ptr d => uptoBulk d + 1
  | .slice elems spare => uptoBulkAll elems + uptoBulkAll spare + 1
  | .agg parts => uptoBulkAll parts + 1
  | .iface _ d => uptoBulk d + 1
  | .map entries => uptoBulkEntries entries + 1
  | .held _ => 1
def uptoBulkAll {H : Type} : List (DataW H) → Nat
  | [] => 0
  | d :: r => uptoBulk d + uptoBulkAll r
def uptoBulkEntries {H : Type} : List (Lit × DataW H) → Nat
  | [] => 0
  | x :: r => uptoBulkEntry x + uptoBulkEntries r
def uptoBulkEntry {H : Type} : Lit × DataW H → Nat
  | (.string bytes, d) => bytes.length + uptoBulk d + 1
  | (_, d) => uptoBulk d + 1
 end
def uptoSmall : (H : Type) → List (DataW H) → Bool := fun _ ds => decide (uptoBulkAll ds ≤ 1048576)
def OpenSpec.upto (s : _root_.Go.ChangeSpec) : _root_.Go.OpenSpec := { _root_.Go.OpenSpec.ofChange s with cond := some uptoSmall }

/-- 'domicilelaw01.LexerCovers', WHERE WHAT IT READS IS OF BULK AT MOST 1048576: true; the input reads as it did. -/
def lexerCoversUptoRow : OpenClaim := { program := "ytaokedpcijmncaadoor", sum := "6a79125a6be55701ac5ca651e287c2d8ca6f2c597697e9bb804e66731695ea5f", func := "domicile/domicilelaw01.LexerCovers", spec := "lexerCovers", inPlace := ["internal/bytealg.IndexByteString"], unfollowed := true, recurses := true, named := ["domicile/lexer.byteKinds"], apart := false, laid := [("domicile/lexer.byteKinds", laid_domicile_lexer_byteKinds)], narrowed := true }
def LexerCoversUptoSaid : Prop := lexerCoversUptoRow.holds Tryd.pinned (OpenSpec.upto lexerCoversSpec)

/-- 'domicilelaw01.LexerAgain', WHERE WHAT IT READS IS OF BULK AT MOST 1048576: true; the input reads as it did. -/
def lexerAgainUptoRow : OpenClaim := { program := "ytaokedpcijmncaadoor", sum := "6a79125a6be55701ac5ca651e287c2d8ca6f2c597697e9bb804e66731695ea5f", func := "domicile/domicilelaw01.LexerAgain", spec := "lexerAgain", inPlace := ["internal/bytealg.IndexByteString"], unfollowed := true, recurses := true, named := ["domicile/lexer.byteKinds"], apart := false, laid := [("domicile/lexer.byteKinds", laid_domicile_lexer_byteKinds)], narrowed := true }
def LexerAgainUptoSaid : Prop := lexerAgainUptoRow.holds Tryd.pinned (OpenSpec.upto lexerAgainSpec)

/-- 'domicilelaw01.LexerJoins', WHERE WHAT IT READS IS OF BULK AT MOST 1048576: true; the input reads as it did. -/
def lexerJoinsUptoRow : OpenClaim := { program := "ytaokedpcijmncaadoor", sum := "6a79125a6be55701ac5ca651e287c2d8ca6f2c597697e9bb804e66731695ea5f", func := "domicile/domicilelaw01.LexerJoins", spec := "lexerJoins", inPlace := ["internal/bytealg.IndexByteString"], unfollowed := true, recurses := true, named := ["domicile/lexer.byteKinds"], apart := false, laid := [("domicile/lexer.byteKinds", laid_domicile_lexer_byteKinds)], narrowed := true }
def LexerJoinsUptoSaid : Prop := lexerJoinsUptoRow.holds Tryd.pinned (OpenSpec.upto lexerJoinsSpec)

/-- 'domicilelaw01.LexerFirstError', WHERE WHAT IT READS IS OF BULK AT MOST 1048576: true; the input reads as it did. -/
def lexerFirstErrorUptoRow : OpenClaim := { program := "ytaokedpcijmncaadoor", sum := "6a79125a6be55701ac5ca651e287c2d8ca6f2c597697e9bb804e66731695ea5f", func := "domicile/domicilelaw01.LexerFirstError", spec := "lexerFirstError", inPlace := ["internal/bytealg.IndexByteString"], unfollowed := true, recurses := true, named := ["domicile/lexer.byteKinds"], apart := false, laid := [("domicile/lexer.byteKinds", laid_domicile_lexer_byteKinds)], narrowed := true }
def LexerFirstErrorUptoSaid : Prop := lexerFirstErrorUptoRow.holds Tryd.pinned (OpenSpec.upto lexerFirstErrorSpec)

/-- 'domicilelaw01.LexerValues', WHERE WHAT IT READS IS OF BULK AT MOST 1048576: true; the input reads as it did. -/
def lexerValuesUptoRow : OpenClaim := { program := "ytaokedpcijmncaadoor", sum := "6a79125a6be55701ac5ca651e287c2d8ca6f2c597697e9bb804e66731695ea5f", func := "domicile/domicilelaw01.LexerValues", spec := "lexerValues", inPlace := ["internal/bytealg.IndexByteString"], unfollowed := true, recurses := true, named := ["domicile/lexer.byteKinds"], apart := false, laid := [("domicile/lexer.byteKinds", laid_domicile_lexer_byteKinds)], narrowed := true }
def LexerValuesUptoSaid : Prop := lexerValuesUptoRow.holds Tryd.pinned (OpenSpec.upto lexerValuesSpec)

/-- 'domicilelaw01.LexerGaps', WHERE WHAT IT READS IS OF BULK AT MOST 1048576: true; the input reads as it did. -/
def lexerGapsUptoRow : OpenClaim := { program := "ytaokedpcijmncaadoor", sum := "6a79125a6be55701ac5ca651e287c2d8ca6f2c597697e9bb804e66731695ea5f", func := "domicile/domicilelaw01.LexerGaps", spec := "lexerGaps", inPlace := ["internal/bytealg.IndexByteString"], unfollowed := true, recurses := true, named := ["domicile/lexer.byteKinds"], apart := false, laid := [("domicile/lexer.byteKinds", laid_domicile_lexer_byteKinds)], narrowed := true }
def LexerGapsUptoSaid : Prop := lexerGapsUptoRow.holds Tryd.pinned (OpenSpec.upto lexerGapsSpec)

end Rows
end Go.Proofs.YtaokedpcijmncaaDoor
