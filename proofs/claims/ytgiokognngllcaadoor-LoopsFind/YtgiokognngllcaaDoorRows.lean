/-
  NARROWER THAN 'FOR EVERY INPUT', by the rows' own cells (each row's printed sentence says how): LoopsFind: laid · LoopsDepth: laid · LoopsNest: laid · LoopsCount: laid.
  DERIVED. THE GIVEN ROWS OF THIS SEAT. 4 by the template 'for every input the law returns true; each argument reads behind the call as it read before'; 0 by the template 'total and deterministic' (their statements: YtgiokognngllcaaDoorTotals.lean).
  GIVEN WITH THE SEED: the statements are not yours to turn. If you find one false, say at which input.
  Laid BY PROGRAM, IN A SANDBOX (cutbox-rows.mjs): the forced cells as the released guide's own fill.sh prints them over the translation 9bea70a6e48f9c51… (all of the seat's roots in one cut). By AI agents, Wed Nov 11 2026. No macro, syntax, notation, axiom, sorry.
-/
import Derived.Test.YtgiokognngllcaaDoorChecked
import GoSem.Claim
import GoSem.ClaimJoined
import GoSem.ClaimMapViews
import Derived.JoinedTies
import Derived.KernelRfl
namespace Go.Proofs.YtgiokognngllcaaDoor
/- THE CELL 'sum', in the pinned program and in every row, IS THE sha256 OF THE DUMP (.gsa) THAT YtgiokognngllcaaDoorProg.lean LOADS. Nothing in Lean hashes anything: it is a label: what it is worth is what the hold of that sum in a sandbox is worth. -/
noncomputable def Tryd.pinned : Pinned := { name := "ytgiokognngllcaadoor", sum := "9bea70a6e48f9c5142cb535e7596f997450cabf4dacc1be13eade15a7fd041d8", checked := Tryd.checked }
namespace Rows
def none {H : Type} : Left H := { results := [], args := [] }

/- WHAT THE LISTED PACKAGE-LEVEL VARIABLES READ AS WHEN THE CALL BEGINS. Each datum BY PROGRAM (the guide's laid-datum.mjs) off the statement by which the dump's own 'gosem.cut.vars' lays the variable. In a bare row this is a premise. The card (YtgiokognngllcaaDoorCards.lean) ties it to the program's text. -/
def laid_math_bits_deBruijn64tab {H : Type} : DataW H := .agg [.lit (.int .u8 0), .lit (.int .u8 1), .lit (.int .u8 56), .lit (.int .u8 2), .lit (.int .u8 57), .lit (.int .u8 49), .lit (.int .u8 28), .lit (.int .u8 3), .lit (.int .u8 61), .lit (.int .u8 58), .lit (.int .u8 42), .lit (.int .u8 50), .lit (.int .u8 38), .lit (.int .u8 29), .lit (.int .u8 17), .lit (.int .u8 4), .lit (.int .u8 62), .lit (.int .u8 47), .lit (.int .u8 59), .lit (.int .u8 36), .lit (.int .u8 45), .lit (.int .u8 43), .lit (.int .u8 51), .lit (.int .u8 22), .lit (.int .u8 53), .lit (.int .u8 39), .lit (.int .u8 33), .lit (.int .u8 30), .lit (.int .u8 24), .lit (.int .u8 18), .lit (.int .u8 12), .lit (.int .u8 5), .lit (.int .u8 63), .lit (.int .u8 55), .lit (.int .u8 48), .lit (.int .u8 27), .lit (.int .u8 60), .lit (.int .u8 41), .lit (.int .u8 37), .lit (.int .u8 16), .lit (.int .u8 46), .lit (.int .u8 35), .lit (.int .u8 44), .lit (.int .u8 21), .lit (.int .u8 52), .lit (.int .u8 32), .lit (.int .u8 23), .lit (.int .u8 11), .lit (.int .u8 54), .lit (.int .u8 26), .lit (.int .u8 40), .lit (.int .u8 15), .lit (.int .u8 34), .lit (.int .u8 20), .lit (.int .u8 31), .lit (.int .u8 10), .lit (.int .u8 25), .lit (.int .u8 14), .lit (.int .u8 19), .lit (.int .u8 9), .lit (.int .u8 13), .lit (.int .u8 8), .lit (.int .u8 7), .lit (.int .u8 6)]
def laid_soffit_code_table {H : Type} : DataW H := .agg [.agg [.lit (.string [114, 101, 116]), .lit (.int .i64 1), .lit (.int .i64 1), .lit (.int .i64 1), .lit (.bool false), .lit (.int .i64 0)], .agg [.lit (.string [115, 101, 116]), .lit (.int .i64 1), .lit (.int .i64 1), .lit (.int .i64 0), .lit (.bool true), .lit (.int .i64 1)], .agg [.lit (.string [109, 111, 118, 101]), .lit (.int .i64 1), .lit (.int .i64 3), .lit (.int .i64 2), .lit (.bool true), .lit (.int .i64 0)], .agg [.lit (.string [97, 100, 100]), .lit (.int .i64 1), .lit (.int .i64 7), .lit (.int .i64 6), .lit (.bool true), .lit (.int .i64 0)], .agg [.lit (.string [115, 117, 98]), .lit (.int .i64 1), .lit (.int .i64 7), .lit (.int .i64 6), .lit (.bool true), .lit (.int .i64 0)], .agg [.lit (.string [109, 117, 108]), .lit (.int .i64 3), .lit (.int .i64 7), .lit (.int .i64 6), .lit (.bool true), .lit (.int .i64 0)], .agg [.lit (.string [100, 105, 118]), .lit (.int .i64 8), .lit (.int .i64 7), .lit (.int .i64 6), .lit (.bool true), .lit (.int .i64 0)], .agg [.lit (.string [114, 101, 109]), .lit (.int .i64 8), .lit (.int .i64 7), .lit (.int .i64 6), .lit (.bool true), .lit (.int .i64 0)], .agg [.lit (.string [108, 101, 115, 115]), .lit (.int .i64 1), .lit (.int .i64 7), .lit (.int .i64 6), .lit (.bool true), .lit (.int .i64 0)], .agg [.lit (.string [101, 113, 117, 97, 108]), .lit (.int .i64 1), .lit (.int .i64 7), .lit (.int .i64 6), .lit (.bool true), .lit (.int .i64 0)], .agg [.lit (.string [110, 111, 116]), .lit (.int .i64 1), .lit (.int .i64 3), .lit (.int .i64 2), .lit (.bool true), .lit (.int .i64 0)], .agg [.lit (.string [108, 111, 97, 100]), .lit (.int .i64 2), .lit (.int .i64 3), .lit (.int .i64 2), .lit (.bool true), .lit (.int .i64 1)], .agg [.lit (.string [115, 116, 111, 114, 101]), .lit (.int .i64 2), .lit (.int .i64 3), .lit (.int .i64 3), .lit (.bool false), .lit (.int .i64 1)], .agg [.lit (.string [99, 104, 101, 99, 107]), .lit (.int .i64 1), .lit (.int .i64 1), .lit (.int .i64 1), .lit (.bool false), .lit (.int .i64 2)], .agg [.lit (.string [106, 117, 109, 112]), .lit (.int .i64 1), .lit (.int .i64 0), .lit (.int .i64 0), .lit (.bool false), .lit (.int .i64 3)], .agg [.lit (.string [105, 102]), .lit (.int .i64 1), .lit (.int .i64 1), .lit (.int .i64 1), .lit (.bool false), .lit (.int .i64 3)], .agg [.lit (.string [117, 110, 108, 101, 115, 115]), .lit (.int .i64 1), .lit (.int .i64 1), .lit (.int .i64 1), .lit (.bool false), .lit (.int .i64 3)], .agg [.lit (.string [99, 111, 117, 110, 116]), .lit (.int .i64 1), .lit (.int .i64 3), .lit (.int .i64 3), .lit (.bool false), .lit (.int .i64 3)], .agg [.lit (.string [115, 116, 101, 112]), .lit (.int .i64 1), .lit (.int .i64 1), .lit (.int .i64 1), .lit (.bool true), .lit (.int .i64 3)], .agg [.lit (.string [99, 97, 108, 108]), .lit (.int .i64 4), .lit (.int .i64 3), .lit (.int .i64 0), .lit (.bool true), .lit (.int .i64 4)]]

/-- 'soffitlaw14.LoopsFind': WHATEVER THE INPUT: true; the input reads as it did. -/
def loopsFindSpec : ChangeSpec := { name := "loopsFind", fn := fun _ => fun
  | [d] => { results := [.lit (.bool true)], args := [d] }
  | _ => none }
def loopsFindRow : OpenClaim := { program := "ytgiokognngllcaadoor", sum := "9bea70a6e48f9c5142cb535e7596f997450cabf4dacc1be13eade15a7fd041d8", func := "soffit/soffitlaw14.LoopsFind", spec := "loopsFind", unfollowed := true, recurses := true, named := ["math/bits.deBruijn64tab", "soffit/code.table"], apart := false, laid := [("math/bits.deBruijn64tab", laid_math_bits_deBruijn64tab), ("soffit/code.table", laid_soffit_code_table)] }
def LoopsFindSaid : Prop := loopsFindRow.holds Tryd.pinned (OpenSpec.ofChange loopsFindSpec)

/-- ITS FALSE NEIGHBOUR: 'it returns false'. Refute it at one input. -/
def loopsFindWrong : ChangeSpec := { name := "loopsFind", fn := fun _ => fun
  | [d] => { results := [.lit (.bool false)], args := [d] }
  | _ => none }
def LoopsFindWrongFalsely : Prop := loopsFindRow.holds Tryd.pinned (OpenSpec.ofChange loopsFindWrong)

/-- 'soffitlaw14.LoopsDepth': WHATEVER THE INPUT: true; the input reads as it did. -/
def loopsDepthSpec : ChangeSpec := { name := "loopsDepth", fn := fun _ => fun
  | [d1, d2] => { results := [.lit (.bool true)], args := [d1, d2] }
  | _ => none }
def loopsDepthRow : OpenClaim := { program := "ytgiokognngllcaadoor", sum := "9bea70a6e48f9c5142cb535e7596f997450cabf4dacc1be13eade15a7fd041d8", func := "soffit/soffitlaw14.LoopsDepth", spec := "loopsDepth", unfollowed := true, recurses := true, named := ["math/bits.deBruijn64tab", "soffit/code.table"], apart := false, laid := [("math/bits.deBruijn64tab", laid_math_bits_deBruijn64tab), ("soffit/code.table", laid_soffit_code_table)] }
def LoopsDepthSaid : Prop := loopsDepthRow.holds Tryd.pinned (OpenSpec.ofChange loopsDepthSpec)

/-- ITS FALSE NEIGHBOUR: 'it returns false'. Refute it at one input. -/
def loopsDepthWrong : ChangeSpec := { name := "loopsDepth", fn := fun _ => fun
  | [d1, d2] => { results := [.lit (.bool false)], args := [d1, d2] }
  | _ => none }
def LoopsDepthWrongFalsely : Prop := loopsDepthRow.holds Tryd.pinned (OpenSpec.ofChange loopsDepthWrong)

/-- 'soffitlaw14.LoopsNest': WHATEVER THE INPUT: true; the input reads as it did. -/
def loopsNestSpec : ChangeSpec := { name := "loopsNest", fn := fun _ => fun
  | [d] => { results := [.lit (.bool true)], args := [d] }
  | _ => none }
def loopsNestRow : OpenClaim := { program := "ytgiokognngllcaadoor", sum := "9bea70a6e48f9c5142cb535e7596f997450cabf4dacc1be13eade15a7fd041d8", func := "soffit/soffitlaw14.LoopsNest", spec := "loopsNest", unfollowed := true, recurses := true, named := ["math/bits.deBruijn64tab", "soffit/code.table"], apart := false, laid := [("math/bits.deBruijn64tab", laid_math_bits_deBruijn64tab), ("soffit/code.table", laid_soffit_code_table)] }
def LoopsNestSaid : Prop := loopsNestRow.holds Tryd.pinned (OpenSpec.ofChange loopsNestSpec)

/-- ITS FALSE NEIGHBOUR: 'it returns false'. Refute it at one input. -/
def loopsNestWrong : ChangeSpec := { name := "loopsNest", fn := fun _ => fun
  | [d] => { results := [.lit (.bool false)], args := [d] }
  | _ => none }
def LoopsNestWrongFalsely : Prop := loopsNestRow.holds Tryd.pinned (OpenSpec.ofChange loopsNestWrong)

/-- 'soffitlaw14.LoopsCount': WHATEVER THE INPUT: true; the input reads as it did. -/
def loopsCountSpec : ChangeSpec := { name := "loopsCount", fn := fun _ => fun
  | [d] => { results := [.lit (.bool true)], args := [d] }
  | _ => none }
def loopsCountRow : OpenClaim := { program := "ytgiokognngllcaadoor", sum := "9bea70a6e48f9c5142cb535e7596f997450cabf4dacc1be13eade15a7fd041d8", func := "soffit/soffitlaw14.LoopsCount", spec := "loopsCount", unfollowed := true, recurses := true, named := ["math/bits.deBruijn64tab", "soffit/code.table"], apart := false, laid := [("math/bits.deBruijn64tab", laid_math_bits_deBruijn64tab), ("soffit/code.table", laid_soffit_code_table)] }
def LoopsCountSaid : Prop := loopsCountRow.holds Tryd.pinned (OpenSpec.ofChange loopsCountSpec)

/-- ITS FALSE NEIGHBOUR: 'it returns false'. Refute it at one input. -/
def loopsCountWrong : ChangeSpec := { name := "loopsCount", fn := fun _ => fun
  | [d] => { results := [.lit (.bool false)], args := [d] }
  | _ => none }
def LoopsCountWrongFalsely : Prop := loopsCountRow.holds Tryd.pinned (OpenSpec.ofChange loopsCountWrong)

/- THE SECOND FORM. 'bulk': how many values and letters a reading holds, each counted each time it is reached (what is shared counts as often as it is met; a slice's spare places count too). A statement '..UptoSaid' is the law's where the arguments, and the package variables that the reading takes, are together of bulk at most 1048576: NARROWER than '..Said'. Prove '..Said' where nothing that the law and all that it calls make is longer than what came in: it says more and counts as full. Else prove '..UptoSaid'. A law counts once. -/
mutual
def uptoBulk {H : Type} : DataW H → Nat
  | .lit (.string bytes) => bytes.length + 1
  | .lit _ => 1
  | .nil => 1
  | .ptr d => uptoBulk d + 1
  | .slice elems spare => uptoBulkAll elems + uptoBulkAll spare + 1
  | .agg parts => uptoBulkAll parts + 1
  | .iface _ d => uptoBulk d + 1
  | .map entries => uptoBulkEntries entries + 1
  | .held _ => 1
def uptoBulkAll {H : Type} : List (DataW H) → Nat
  | [] => 0
  | d :: r => uptoBulk d + uptoBulkAll r
def uptoBulkEntries {H : Type} : List (Lit × DataW H) → Nat
  | [] => 0
  | x :: r => uptoBulkEntry x + uptoBulkEntries r
def uptoBulkEntry {H : Type} : Lit × DataW H → Nat
  | (.string bytes, d) => bytes.length + uptoBulk d + 1
  | (_, d) => uptoBulk d + 1
 end
def uptoSmall : (H : Type) → List (DataW H) → Bool := fun _ ds => decide (uptoBulkAll ds ≤ 1048576)
def OpenSpec.upto (s : _root_.Go.ChangeSpec) : _root_.Go.OpenSpec := { _root_.Go.OpenSpec.ofChange s with cond := some uptoSmall }

/-- 'soffitlaw14.LoopsFind', WHERE WHAT IT READS IS OF BULK AT MOST 1048576: true; the input reads as it did. -/
def loopsFindUptoRow : OpenClaim := { program := "ytgiokognngllcaadoor", sum := "9bea70a6e48f9c5142cb535e7596f997450cabf4dacc1be13eade15a7fd041d8", func := "soffit/soffitlaw14.LoopsFind", spec := "loopsFind", unfollowed := true, recurses := true, named := ["math/bits.deBruijn64tab", "soffit/code.table"], apart := false, laid := [("math/bits.deBruijn64tab", laid_math_bits_deBruijn64tab), ("soffit/code.table", laid_soffit_code_table)], narrowed := true }
def LoopsFindUptoSaid : Prop := loopsFindUptoRow.holds Tryd.pinned (OpenSpec.upto loopsFindSpec)

/-- 'soffitlaw14.LoopsDepth', WHERE WHAT IT READS IS OF BULK AT MOST 1048576: true; the input reads as it did. -/
def loopsDepthUptoRow : OpenClaim := { program := "ytgiokognngllcaadoor", sum := "9bea70a6e48f9c5142cb535e7596f997450cabf4dacc1be13eade15a7fd041d8", func := "soffit/soffitlaw14.LoopsDepth", spec := "loopsDepth", unfollowed := true, recurses := true, named := ["math/bits.deBruijn64tab", "soffit/code.table"], apart := false, laid := [("math/bits.deBruijn64tab", laid_math_bits_deBruijn64tab), ("soffit/code.table", laid_soffit_code_table)], narrowed := true }
def LoopsDepthUptoSaid : Prop := loopsDepthUptoRow.holds Tryd.pinned (OpenSpec.upto loopsDepthSpec)

/-- 'soffitlaw14.LoopsNest', WHERE WHAT IT READS IS OF BULK AT MOST 1048576: true; the input reads as it did. -/
def loopsNestUptoRow : OpenClaim := { program := "ytgiokognngllcaadoor", sum := "9bea70a6e48f9c5142cb535e7596f997450cabf4dacc1be13eade15a7fd041d8", func := "soffit/soffitlaw14.LoopsNest", spec := "loopsNest", unfollowed := true, recurses := true, named := ["math/bits.deBruijn64tab", "soffit/code.table"], apart := false, laid := [("math/bits.deBruijn64tab", laid_math_bits_deBruijn64tab), ("soffit/code.table", laid_soffit_code_table)], narrowed := true }
def LoopsNestUptoSaid : Prop := loopsNestUptoRow.holds Tryd.pinned (OpenSpec.upto loopsNestSpec)

/-- 'soffitlaw14.LoopsCount', WHERE WHAT IT READS IS OF BULK AT MOST 1048576: true; the input reads as it did. -/
def loopsCountUptoRow : OpenClaim := { program := "ytgiokognngllcaadoor", sum := "9bea70a6e48f9c5142cb535e7596f997450cabf4dacc1be13eade15a7fd041d8", func := "soffit/soffitlaw14.LoopsCount", spec := "loopsCount", unfollowed := true, recurses := true, named := ["math/bits.deBruijn64tab", "soffit/code.table"], apart := false, laid := [("math/bits.deBruijn64tab", laid_math_bits_deBruijn64tab), ("soffit/code.table", laid_soffit_code_table)], narrowed := true }
def LoopsCountUptoSaid : Prop := loopsCountUptoRow.holds Tryd.pinned (OpenSpec.upto loopsCountSpec)

end Rows
end Go.Proofs.YtgiokognngllcaaDoor
