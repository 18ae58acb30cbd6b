/-
  NARROWER THAN 'FOR EVERY INPUT', by the rows' own cells (each row's printed sentence says how): CodeWords: laid · CodeFields: laid · CodeMay: laid · CodeFinds: laid · CodeSame: laid · CodeLies: laid.
  DERIVED. THE GIVEN ROWS OF THIS SEAT. 6 by the template 'for every input the law returns true; each argument reads behind the call as it read before'; 0 by the template 'total and deterministic' (their statements: YtlkoigdnakmdlaaDoorTotals.lean).
  GIVEN WITH THE SEED: the statements are not yours to turn. If you find one false, say at which input.
  Laid BY PROGRAM, IN A SANDBOX (cutbox-rows.mjs): the forced cells as the released guide's own fill.sh prints them over the translation a00746fafe948566… (all of the seat's roots in one cut). By AI agents, Wed Nov 11 2026. No macro, syntax, notation, axiom, sorry.
-/
import Derived.Test.YtlkoigdnakmdlaaDoorChecked
import GoSem.Claim
import GoSem.ClaimJoined
import GoSem.ClaimMapViews
import Derived.JoinedTies
import Derived.KernelRfl
namespace Go.Proofs.YtlkoigdnakmdlaaDoor
/- THE CELL 'sum', in the pinned program and in every row, IS THE sha256 OF THE DUMP (.gsa) THAT YtlkoigdnakmdlaaDoorProg.lean LOADS. Nothing in Lean hashes anything: it is a label: what it is worth is what the hold of that sum in a sandbox is worth. -/
noncomputable def Tryd.pinned : Pinned := { name := "ytlkoigdnakmdlaadoor", sum := "a00746fafe948566577f9c440f3bfb68764f6ce9636531a9ea0861ca9c1998ec", checked := Tryd.checked }
namespace Rows
def none {H : Type} : Left H := { results := [], args := [] }

/- WHAT THE LISTED PACKAGE-LEVEL VARIABLES READ AS WHEN THE CALL BEGINS. Each datum BY PROGRAM (the guide's laid-datum.mjs) off the statement by which the dump's own 'gosem.cut.vars' lays the variable. In a bare row this is a premise. The card (YtlkoigdnakmdlaaDoorCards.lean) ties it to the program's text. -/
def laid_soffit_code_table {H : Type} : DataW H := .agg [.agg [.lit (.string [114, 101, 116]), .lit (.int .i64 1), .lit (.int .i64 1), .lit (.int .i64 1), .lit (.bool false), .lit (.int .i64 0)], .agg [.lit (.string [115, 101, 116]), .lit (.int .i64 1), .lit (.int .i64 1), .lit (.int .i64 0), .lit (.bool true), .lit (.int .i64 1)], .agg [.lit (.string [109, 111, 118, 101]), .lit (.int .i64 1), .lit (.int .i64 3), .lit (.int .i64 2), .lit (.bool true), .lit (.int .i64 0)], .agg [.lit (.string [97, 100, 100]), .lit (.int .i64 1), .lit (.int .i64 7), .lit (.int .i64 6), .lit (.bool true), .lit (.int .i64 0)], .agg [.lit (.string [115, 117, 98]), .lit (.int .i64 1), .lit (.int .i64 7), .lit (.int .i64 6), .lit (.bool true), .lit (.int .i64 0)], .agg [.lit (.string [109, 117, 108]), .lit (.int .i64 3), .lit (.int .i64 7), .lit (.int .i64 6), .lit (.bool true), .lit (.int .i64 0)], .agg [.lit (.string [100, 105, 118]), .lit (.int .i64 8), .lit (.int .i64 7), .lit (.int .i64 6), .lit (.bool true), .lit (.int .i64 0)], .agg [.lit (.string [114, 101, 109]), .lit (.int .i64 8), .lit (.int .i64 7), .lit (.int .i64 6), .lit (.bool true), .lit (.int .i64 0)], .agg [.lit (.string [108, 101, 115, 115]), .lit (.int .i64 1), .lit (.int .i64 7), .lit (.int .i64 6), .lit (.bool true), .lit (.int .i64 0)], .agg [.lit (.string [101, 113, 117, 97, 108]), .lit (.int .i64 1), .lit (.int .i64 7), .lit (.int .i64 6), .lit (.bool true), .lit (.int .i64 0)], .agg [.lit (.string [110, 111, 116]), .lit (.int .i64 1), .lit (.int .i64 3), .lit (.int .i64 2), .lit (.bool true), .lit (.int .i64 0)], .agg [.lit (.string [108, 111, 97, 100]), .lit (.int .i64 2), .lit (.int .i64 3), .lit (.int .i64 2), .lit (.bool true), .lit (.int .i64 1)], .agg [.lit (.string [115, 116, 111, 114, 101]), .lit (.int .i64 2), .lit (.int .i64 3), .lit (.int .i64 3), .lit (.bool false), .lit (.int .i64 1)], .agg [.lit (.string [99, 104, 101, 99, 107]), .lit (.int .i64 1), .lit (.int .i64 1), .lit (.int .i64 1), .lit (.bool false), .lit (.int .i64 2)], .agg [.lit (.string [106, 117, 109, 112]), .lit (.int .i64 1), .lit (.int .i64 0), .lit (.int .i64 0), .lit (.bool false), .lit (.int .i64 3)], .agg [.lit (.string [105, 102]), .lit (.int .i64 1), .lit (.int .i64 1), .lit (.int .i64 1), .lit (.bool false), .lit (.int .i64 3)], .agg [.lit (.string [117, 110, 108, 101, 115, 115]), .lit (.int .i64 1), .lit (.int .i64 1), .lit (.int .i64 1), .lit (.bool false), .lit (.int .i64 3)], .agg [.lit (.string [99, 111, 117, 110, 116]), .lit (.int .i64 1), .lit (.int .i64 3), .lit (.int .i64 3), .lit (.bool false), .lit (.int .i64 3)], .agg [.lit (.string [115, 116, 101, 112]), .lit (.int .i64 1), .lit (.int .i64 1), .lit (.int .i64 1), .lit (.bool true), .lit (.int .i64 3)], .agg [.lit (.string [99, 97, 108, 108]), .lit (.int .i64 4), .lit (.int .i64 3), .lit (.int .i64 0), .lit (.bool true), .lit (.int .i64 4)]]

/-- 'soffitlaw09.CodeWords': WHATEVER THE INPUT: true; the input reads as it did. -/
def codeWordsSpec : ChangeSpec := { name := "codeWords", fn := fun _ => fun
  | [d] => { results := [.lit (.bool true)], args := [d] }
  | _ => none }
def codeWordsRow : OpenClaim := { program := "ytlkoigdnakmdlaadoor", sum := "a00746fafe948566577f9c440f3bfb68764f6ce9636531a9ea0861ca9c1998ec", func := "soffit/soffitlaw09.CodeWords", spec := "codeWords", unfollowed := true, recurses := true, named := ["soffit/code.table"], apart := false, laid := [("soffit/code.table", laid_soffit_code_table)] }
def CodeWordsSaid : Prop := codeWordsRow.holds Tryd.pinned (OpenSpec.ofChange codeWordsSpec)

/-- ITS FALSE NEIGHBOUR: 'it returns false'. Refute it at one input. -/
def codeWordsWrong : ChangeSpec := { name := "codeWords", fn := fun _ => fun
  | [d] => { results := [.lit (.bool false)], args := [d] }
  | _ => none }
def CodeWordsWrongFalsely : Prop := codeWordsRow.holds Tryd.pinned (OpenSpec.ofChange codeWordsWrong)

/-- 'soffitlaw09.CodeFields': WHATEVER THE INPUT: true; the input reads as it did. -/
def codeFieldsSpec : ChangeSpec := { name := "codeFields", fn := fun _ => fun
  | [d1, d2, d3] => { results := [.lit (.bool true)], args := [d1, d2, d3] }
  | _ => none }
def codeFieldsRow : OpenClaim := { program := "ytlkoigdnakmdlaadoor", sum := "a00746fafe948566577f9c440f3bfb68764f6ce9636531a9ea0861ca9c1998ec", func := "soffit/soffitlaw09.CodeFields", spec := "codeFields", unfollowed := true, recurses := true, named := ["soffit/code.table"], apart := false, laid := [("soffit/code.table", laid_soffit_code_table)] }
def CodeFieldsSaid : Prop := codeFieldsRow.holds Tryd.pinned (OpenSpec.ofChange codeFieldsSpec)

/-- ITS FALSE NEIGHBOUR: 'it returns false'. Refute it at one input. -/
def codeFieldsWrong : ChangeSpec := { name := "codeFields", fn := fun _ => fun
  | [d1, d2, d3] => { results := [.lit (.bool false)], args := [d1, d2, d3] }
  | _ => none }
def CodeFieldsWrongFalsely : Prop := codeFieldsRow.holds Tryd.pinned (OpenSpec.ofChange codeFieldsWrong)

/-- 'soffitlaw09.CodeMay': WHATEVER THE INPUT: true; the input reads as it did. -/
def codeMaySpec : ChangeSpec := { name := "codeMay", fn := fun _ => fun
  | [d] => { results := [.lit (.bool true)], args := [d] }
  | _ => none }
def codeMayRow : OpenClaim := { program := "ytlkoigdnakmdlaadoor", sum := "a00746fafe948566577f9c440f3bfb68764f6ce9636531a9ea0861ca9c1998ec", func := "soffit/soffitlaw09.CodeMay", spec := "codeMay", unfollowed := true, recurses := true, named := ["soffit/code.table"], apart := false, laid := [("soffit/code.table", laid_soffit_code_table)] }
def CodeMaySaid : Prop := codeMayRow.holds Tryd.pinned (OpenSpec.ofChange codeMaySpec)

/-- ITS FALSE NEIGHBOUR: 'it returns false'. Refute it at one input. -/
def codeMayWrong : ChangeSpec := { name := "codeMay", fn := fun _ => fun
  | [d] => { results := [.lit (.bool false)], args := [d] }
  | _ => none }
def CodeMayWrongFalsely : Prop := codeMayRow.holds Tryd.pinned (OpenSpec.ofChange codeMayWrong)

/-- 'soffitlaw09.CodeFinds': WHATEVER THE INPUT: true; the input reads as it did. -/
def codeFindsSpec : ChangeSpec := { name := "codeFinds", fn := fun _ => fun
  | [d1, d2] => { results := [.lit (.bool true)], args := [d1, d2] }
  | _ => none }
def codeFindsRow : OpenClaim := { program := "ytlkoigdnakmdlaadoor", sum := "a00746fafe948566577f9c440f3bfb68764f6ce9636531a9ea0861ca9c1998ec", func := "soffit/soffitlaw09.CodeFinds", spec := "codeFinds", unfollowed := true, recurses := true, named := ["soffit/code.table"], apart := false, laid := [("soffit/code.table", laid_soffit_code_table)] }
def CodeFindsSaid : Prop := codeFindsRow.holds Tryd.pinned (OpenSpec.ofChange codeFindsSpec)

/-- ITS FALSE NEIGHBOUR: 'it returns false'. Refute it at one input. -/
def codeFindsWrong : ChangeSpec := { name := "codeFinds", fn := fun _ => fun
  | [d1, d2] => { results := [.lit (.bool false)], args := [d1, d2] }
  | _ => none }
def CodeFindsWrongFalsely : Prop := codeFindsRow.holds Tryd.pinned (OpenSpec.ofChange codeFindsWrong)

/-- 'soffitlaw09.CodeSame': WHATEVER THE INPUT: true; the input reads as it did. -/
def codeSameSpec : ChangeSpec := { name := "codeSame", fn := fun _ => fun
  | [d1, d2] => { results := [.lit (.bool true)], args := [d1, d2] }
  | _ => none }
def codeSameRow : OpenClaim := { program := "ytlkoigdnakmdlaadoor", sum := "a00746fafe948566577f9c440f3bfb68764f6ce9636531a9ea0861ca9c1998ec", func := "soffit/soffitlaw09.CodeSame", spec := "codeSame", unfollowed := true, recurses := true, named := ["soffit/code.table"], apart := false, laid := [("soffit/code.table", laid_soffit_code_table)] }
def CodeSameSaid : Prop := codeSameRow.holds Tryd.pinned (OpenSpec.ofChange codeSameSpec)

/-- ITS FALSE NEIGHBOUR: 'it returns false'. Refute it at one input. -/
def codeSameWrong : ChangeSpec := { name := "codeSame", fn := fun _ => fun
  | [d1, d2] => { results := [.lit (.bool false)], args := [d1, d2] }
  | _ => none }
def CodeSameWrongFalsely : Prop := codeSameRow.holds Tryd.pinned (OpenSpec.ofChange codeSameWrong)

/-- 'soffitlaw09.CodeLies': WHATEVER THE INPUT: true; the input reads as it did. -/
def codeLiesSpec : ChangeSpec := { name := "codeLies", fn := fun _ => fun
  | [d] => { results := [.lit (.bool true)], args := [d] }
  | _ => none }
def codeLiesRow : OpenClaim := { program := "ytlkoigdnakmdlaadoor", sum := "a00746fafe948566577f9c440f3bfb68764f6ce9636531a9ea0861ca9c1998ec", func := "soffit/soffitlaw09.CodeLies", spec := "codeLies", unfollowed := true, recurses := true, named := ["soffit/code.table"], apart := false, laid := [("soffit/code.table", laid_soffit_code_table)] }
def CodeLiesSaid : Prop := codeLiesRow.holds Tryd.pinned (OpenSpec.ofChange codeLiesSpec)

/-- ITS FALSE NEIGHBOUR: 'it returns false'. Refute it at one input. -/
def codeLiesWrong : ChangeSpec := { name := "codeLies", fn := fun _ => fun
  | [d] => { results := [.lit (.bool false)], args := [d] }
  | _ => none }
def CodeLiesWrongFalsely : Prop := codeLiesRow.holds Tryd.pinned (OpenSpec.ofChange codeLiesWrong)

/- THE SECOND FORM. 'bulk': how many values and letters a reading holds, each counted each time it is reached (what is shared counts as often as it is met; a slice's spare places count too). A statement '..UptoSaid' is the law's where the arguments, and the package variables that the reading takes, are together of bulk at most 1048576: NARROWER than '..Said'. Prove '..Said' where nothing that the law and all that it calls make is longer than what came in: it says more and counts as full. Else prove '..UptoSaid'. A law counts once. -/
mutual
def uptoBulk {H : Type} : DataW H → Nat
  | .lit (.string bytes) => bytes.length + 1
  | .lit _ => 1
  | .nil => 1
  | .ptr d => uptoBulk d + 1
  | .slice elems spare => uptoBulkAll elems + uptoBulkAll spare + 1
  | .agg parts => uptoBulkAll parts + 1
  | .iface _ d => uptoBulk d + 1
  | .map entries => uptoBulkEntries entries + 1
  | .held _ => 1
def uptoBulkAll {H : Type} : List (DataW H) → Nat
  | [] => 0
  | d :: r => uptoBulk d + uptoBulkAll r
def uptoBulkEntries {H : Type} : List (Lit × DataW H) → Nat
  | [] => 0
  | x :: r => uptoBulkEntry x + uptoBulkEntries r
def uptoBulkEntry {H : Type} : Lit × DataW H → Nat
  | (.string bytes, d) => bytes.length + uptoBulk d + 1
  | (_, d) => uptoBulk d + 1
 end
def uptoSmall : (H : Type) → List (DataW H) → Bool := fun _ ds => decide (uptoBulkAll ds ≤ 1048576)
def OpenSpec.upto (s : _root_.Go.ChangeSpec) : _root_.Go.OpenSpec := { _root_.Go.OpenSpec.ofChange s with cond := some uptoSmall }

/-- 'soffitlaw09.CodeWords', WHERE WHAT IT READS IS OF BULK AT MOST 1048576: true; the input reads as it did. -/
def codeWordsUptoRow : OpenClaim := { program := "ytlkoigdnakmdlaadoor", sum := "a00746fafe948566577f9c440f3bfb68764f6ce9636531a9ea0861ca9c1998ec", func := "soffit/soffitlaw09.CodeWords", spec := "codeWords", unfollowed := true, recurses := true, named := ["soffit/code.table"], apart := false, laid := [("soffit/code.table", laid_soffit_code_table)], narrowed := true }
def CodeWordsUptoSaid : Prop := codeWordsUptoRow.holds Tryd.pinned (OpenSpec.upto codeWordsSpec)

/-- 'soffitlaw09.CodeFields', WHERE WHAT IT READS IS OF BULK AT MOST 1048576: true; the input reads as it did. -/
def codeFieldsUptoRow : OpenClaim := { program := "ytlkoigdnakmdlaadoor", sum := "a00746fafe948566577f9c440f3bfb68764f6ce9636531a9ea0861ca9c1998ec", func := "soffit/soffitlaw09.CodeFields", spec := "codeFields", unfollowed := true, recurses := true, named := ["soffit/code.table"], apart := false, laid := [("soffit/code.table", laid_soffit_code_table)], narrowed := true }
def CodeFieldsUptoSaid : Prop := codeFieldsUptoRow.holds Tryd.pinned (OpenSpec.upto codeFieldsSpec)

/-- 'soffitlaw09.CodeMay', WHERE WHAT IT READS IS OF BULK AT MOST 1048576: true; the input reads as it did. -/
def codeMayUptoRow : OpenClaim := { program := "ytlkoigdnakmdlaadoor", sum := "a00746fafe948566577f9c440f3bfb68764f6ce9636531a9ea0861ca9c1998ec", func := "soffit/soffitlaw09.CodeMay", spec := "codeMay", unfollowed := true, recurses := true, named := ["soffit/code.table"], apart := false, laid := [("soffit/code.table", laid_soffit_code_table)], narrowed := true }
def CodeMayUptoSaid : Prop := codeMayUptoRow.holds Tryd.pinned (OpenSpec.upto codeMaySpec)

/-- 'soffitlaw09.CodeFinds', WHERE WHAT IT READS IS OF BULK AT MOST 1048576: true; the input reads as it did. -/
def codeFindsUptoRow : OpenClaim := { program := "ytlkoigdnakmdlaadoor", sum := "a00746fafe948566577f9c440f3bfb68764f6ce9636531a9ea0861ca9c1998ec", func := "soffit/soffitlaw09.CodeFinds", spec := "codeFinds", unfollowed := true, recurses := true, named := ["soffit/code.table"], apart := false, laid := [("soffit/code.table", laid_soffit_code_table)], narrowed := true }
def CodeFindsUptoSaid : Prop := codeFindsUptoRow.holds Tryd.pinned (OpenSpec.upto codeFindsSpec)

/-- 'soffitlaw09.CodeSame', WHERE WHAT IT READS IS OF BULK AT MOST 1048576: true; the input reads as it did. -/
def codeSameUptoRow : OpenClaim := { program := "ytlkoigdnakmdlaadoor", sum := "a00746fafe948566577f9c440f3bfb68764f6ce9636531a9ea0861ca9c1998ec", func := "soffit/soffitlaw09.CodeSame", spec := "codeSame", unfollowed := true, recurses := true, named := ["soffit/code.table"], apart := false, laid := [("soffit/code.table", laid_soffit_code_table)], narrowed := true }
def CodeSameUptoSaid : Prop := codeSameUptoRow.holds Tryd.pinned (OpenSpec.upto codeSameSpec)

/-- 'soffitlaw09.CodeLies', WHERE WHAT IT READS IS OF BULK AT MOST 1048576: true; the input reads as it did. -/
def codeLiesUptoRow : OpenClaim := { program := "ytlkoigdnakmdlaadoor", sum := "a00746fafe948566577f9c440f3bfb68764f6ce9636531a9ea0861ca9c1998ec", func := "soffit/soffitlaw09.CodeLies", spec := "codeLies", unfollowed := true, recurses := true, named := ["soffit/code.table"], apart := false, laid := [("soffit/code.table", laid_soffit_code_table)], narrowed := true }
def CodeLiesUptoSaid : Prop := codeLiesUptoRow.holds Tryd.pinned (OpenSpec.upto codeLiesSpec)

end Rows
end Go.Proofs.YtlkoigdnakmdlaaDoor
