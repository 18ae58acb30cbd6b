/-
  NARROWER THAN 'FOR EVERY INPUT', by the rows' own cells (each row's printed sentence says how): PackEncodes: laid · PackDecodes: laid · PackBack: laid · PackCuts: laid.
  DERIVED. THE GIVEN ROWS OF THIS SEAT. 4 by the template 'for every input the law returns true; each argument reads behind the call as it read before'; 0 by the template 'total and deterministic' (their statements: YtfamomjgjamnoaaDoorTotals.lean).
  GIVEN WITH THE SEED: the statements are not yours to turn. If you find one false, say at which input.
  Laid BY PROGRAM, IN A SANDBOX (cutbox-rows.mjs): the forced cells as the released guide's own fill.sh prints them over the translation a1772c3d8bd1ee07… (all of the seat's roots in one cut). By AI agents, Wed Nov 11 2026. No macro, syntax, notation, axiom, sorry.
-/
import Derived.Test.YtfamomjgjamnoaaDoorChecked
import GoSem.Claim
import GoSem.ClaimJoined
import GoSem.ClaimMapViews
import Derived.JoinedTies
import Derived.KernelRfl
namespace Go.Proofs.YtfamomjgjamnoaaDoor
/- THE CELL 'sum', in the pinned program and in every row, IS THE sha256 OF THE DUMP (.gsa) THAT YtfamomjgjamnoaaDoorProg.lean LOADS. Nothing in Lean hashes anything: it is a label: what it is worth is what the hold of that sum in a sandbox is worth. -/
noncomputable def Tryd.pinned : Pinned := { name := "ytfamomjgjamnoaadoor", sum := "a1772c3d8bd1ee07b5701675009b3877f369e6db4d618ff50326d68c09871d77", checked := Tryd.checked }
namespace Rows
def none {H : Type} : Left H := { results := [], args := [] }

/- WHAT THE LISTED PACKAGE-LEVEL VARIABLES READ AS WHEN THE CALL BEGINS. Each datum BY PROGRAM (the guide's laid-datum.mjs) off the statement by which the dump's own 'gosem.cut.vars' lays the variable. In a bare row this is a premise. The card (YtfamomjgjamnoaaDoorCards.lean) ties it to the program's text. -/
def laid_soffit_code_table {H : Type} : DataW H := .agg [.agg [.lit (.string [114, 101, 116]), .lit (.int .i64 1), .lit (.int .i64 1), .lit (.int .i64 1), .lit (.bool false), .lit (.int .i64 0)], .agg [.lit (.string [115, 101, 116]), .lit (.int .i64 1), .lit (.int .i64 1), .lit (.int .i64 0), .lit (.bool true), .lit (.int .i64 1)], .agg [.lit (.string [109, 111, 118, 101]), .lit (.int .i64 1), .lit (.int .i64 3), .lit (.int .i64 2), .lit (.bool true), .lit (.int .i64 0)], .agg [.lit (.string [97, 100, 100]), .lit (.int .i64 1), .lit (.int .i64 7), .lit (.int .i64 6), .lit (.bool true), .lit (.int .i64 0)], .agg [.lit (.string [115, 117, 98]), .lit (.int .i64 1), .lit (.int .i64 7), .lit (.int .i64 6), .lit (.bool true), .lit (.int .i64 0)], .agg [.lit (.string [109, 117, 108]), .lit (.int .i64 3), .lit (.int .i64 7), .lit (.int .i64 6), .lit (.bool true), .lit (.int .i64 0)], .agg [.lit (.string [100, 105, 118]), .lit (.int .i64 8), .lit (.int .i64 7), .lit (.int .i64 6), .lit (.bool true), .lit (.int .i64 0)], .agg [.lit (.string [114, 101, 109]), .lit (.int .i64 8), .lit (.int .i64 7), .lit (.int .i64 6), .lit (.bool true), .lit (.int .i64 0)], .agg [.lit (.string [108, 101, 115, 115]), .lit (.int .i64 1), .lit (.int .i64 7), .lit (.int .i64 6), .lit (.bool true), .lit (.int .i64 0)], .agg [.lit (.string [101, 113, 117, 97, 108]), .lit (.int .i64 1), .lit (.int .i64 7), .lit (.int .i64 6), .lit (.bool true), .lit (.int .i64 0)], .agg [.lit (.string [110, 111, 116]), .lit (.int .i64 1), .lit (.int .i64 3), .lit (.int .i64 2), .lit (.bool true), .lit (.int .i64 0)], .agg [.lit (.string [108, 111, 97, 100]), .lit (.int .i64 2), .lit (.int .i64 3), .lit (.int .i64 2), .lit (.bool true), .lit (.int .i64 1)], .agg [.lit (.string [115, 116, 111, 114, 101]), .lit (.int .i64 2), .lit (.int .i64 3), .lit (.int .i64 3), .lit (.bool false), .lit (.int .i64 1)], .agg [.lit (.string [99, 104, 101, 99, 107]), .lit (.int .i64 1), .lit (.int .i64 1), .lit (.int .i64 1), .lit (.bool false), .lit (.int .i64 2)], .agg [.lit (.string [106, 117, 109, 112]), .lit (.int .i64 1), .lit (.int .i64 0), .lit (.int .i64 0), .lit (.bool false), .lit (.int .i64 3)], .agg [.lit (.string [105, 102]), .lit (.int .i64 1), .lit (.int .i64 1), .lit (.int .i64 1), .lit (.bool false), .lit (.int .i64 3)], .agg [.lit (.string [117, 110, 108, 101, 115, 115]), .lit (.int .i64 1), .lit (.int .i64 1), .lit (.int .i64 1), .lit (.bool false), .lit (.int .i64 3)], .agg [.lit (.string [99, 111, 117, 110, 116]), .lit (.int .i64 1), .lit (.int .i64 3), .lit (.int .i64 3), .lit (.bool false), .lit (.int .i64 3)], .agg [.lit (.string [115, 116, 101, 112]), .lit (.int .i64 1), .lit (.int .i64 1), .lit (.int .i64 1), .lit (.bool true), .lit (.int .i64 3)], .agg [.lit (.string [99, 97, 108, 108]), .lit (.int .i64 4), .lit (.int .i64 3), .lit (.int .i64 0), .lit (.bool true), .lit (.int .i64 4)]]

/-- 'soffitlaw11.PackEncodes': WHATEVER THE INPUT: true; the input reads as it did. -/
def packEncodesSpec : ChangeSpec := { name := "packEncodes", fn := fun _ => fun
  | [d] => { results := [.lit (.bool true)], args := [d] }
  | _ => none }
def packEncodesRow : OpenClaim := { program := "ytfamomjgjamnoaadoor", sum := "a1772c3d8bd1ee07b5701675009b3877f369e6db4d618ff50326d68c09871d77", func := "soffit/soffitlaw11.PackEncodes", spec := "packEncodes", unfollowed := true, recurses := true, named := ["soffit/code.table"], apart := false, laid := [("soffit/code.table", laid_soffit_code_table)] }
def PackEncodesSaid : Prop := packEncodesRow.holds Tryd.pinned (OpenSpec.ofChange packEncodesSpec)

/-- ITS FALSE NEIGHBOUR: 'it returns false'. Refute it at one input. -/
def packEncodesWrong : ChangeSpec := { name := "packEncodes", fn := fun _ => fun
  | [d] => { results := [.lit (.bool false)], args := [d] }
  | _ => none }
def PackEncodesWrongFalsely : Prop := packEncodesRow.holds Tryd.pinned (OpenSpec.ofChange packEncodesWrong)

/-- 'soffitlaw11.PackDecodes': WHATEVER THE INPUT: true; the input reads as it did. -/
def packDecodesSpec : ChangeSpec := { name := "packDecodes", fn := fun _ => fun
  | [d] => { results := [.lit (.bool true)], args := [d] }
  | _ => none }
def packDecodesRow : OpenClaim := { program := "ytfamomjgjamnoaadoor", sum := "a1772c3d8bd1ee07b5701675009b3877f369e6db4d618ff50326d68c09871d77", func := "soffit/soffitlaw11.PackDecodes", spec := "packDecodes", unfollowed := true, recurses := true, named := ["soffit/code.table"], apart := false, laid := [("soffit/code.table", laid_soffit_code_table)] }
def PackDecodesSaid : Prop := packDecodesRow.holds Tryd.pinned (OpenSpec.ofChange packDecodesSpec)

/-- ITS FALSE NEIGHBOUR: 'it returns false'. Refute it at one input. -/
def packDecodesWrong : ChangeSpec := { name := "packDecodes", fn := fun _ => fun
  | [d] => { results := [.lit (.bool false)], args := [d] }
  | _ => none }
def PackDecodesWrongFalsely : Prop := packDecodesRow.holds Tryd.pinned (OpenSpec.ofChange packDecodesWrong)

/-- 'soffitlaw11.PackBack': WHATEVER THE INPUT: true; the input reads as it did. -/
def packBackSpec : ChangeSpec := { name := "packBack", fn := fun _ => fun
  | [d1, d2] => { results := [.lit (.bool true)], args := [d1, d2] }
  | _ => none }
def packBackRow : OpenClaim := { program := "ytfamomjgjamnoaadoor", sum := "a1772c3d8bd1ee07b5701675009b3877f369e6db4d618ff50326d68c09871d77", func := "soffit/soffitlaw11.PackBack", spec := "packBack", unfollowed := true, recurses := true, named := ["soffit/code.table"], apart := false, laid := [("soffit/code.table", laid_soffit_code_table)] }
def PackBackSaid : Prop := packBackRow.holds Tryd.pinned (OpenSpec.ofChange packBackSpec)

/-- ITS FALSE NEIGHBOUR: 'it returns false'. Refute it at one input. -/
def packBackWrong : ChangeSpec := { name := "packBack", fn := fun _ => fun
  | [d1, d2] => { results := [.lit (.bool false)], args := [d1, d2] }
  | _ => none }
def PackBackWrongFalsely : Prop := packBackRow.holds Tryd.pinned (OpenSpec.ofChange packBackWrong)

/-- 'soffitlaw11.PackCuts': WHATEVER THE INPUT: true; the input reads as it did. -/
def packCutsSpec : ChangeSpec := { name := "packCuts", fn := fun _ => fun
  | [d1, d2, d3] => { results := [.lit (.bool true)], args := [d1, d2, d3] }
  | _ => none }
def packCutsRow : OpenClaim := { program := "ytfamomjgjamnoaadoor", sum := "a1772c3d8bd1ee07b5701675009b3877f369e6db4d618ff50326d68c09871d77", func := "soffit/soffitlaw11.PackCuts", spec := "packCuts", unfollowed := true, recurses := true, named := ["soffit/code.table"], apart := false, laid := [("soffit/code.table", laid_soffit_code_table)] }
def PackCutsSaid : Prop := packCutsRow.holds Tryd.pinned (OpenSpec.ofChange packCutsSpec)

/-- ITS FALSE NEIGHBOUR: 'it returns false'. Refute it at one input. -/
def packCutsWrong : ChangeSpec := { name := "packCuts", fn := fun _ => fun
  | [d1, d2, d3] => { results := [.lit (.bool false)], args := [d1, d2, d3] }
  | _ => none }
def PackCutsWrongFalsely : Prop := packCutsRow.holds Tryd.pinned (OpenSpec.ofChange packCutsWrong)

/- THE SECOND FORM. 'bulk': how many values and letters a reading holds, each counted each time it is reached (what is shared counts as often as it is met; a slice's spare places count too). A statement '..UptoSaid' is the law's where the arguments, and the package variables that the reading takes, are together of bulk at most 1048576: NARROWER than '..Said'. Prove '..Said' where nothing that the law and all that it calls make is longer than what came in: it says more and counts as full. Else prove '..UptoSaid'. A law counts once. -/
mutual
def uptoBulk {H : Type} : DataW H → Nat
  | .lit (.string bytes) => bytes.length + 1
  | .lit _ => 1
  | .nil => 1
  | .ptr d => uptoBulk d + 1
  | .slice elems spare => uptoBulkAll elems + uptoBulkAll spare + 1
  | .agg parts => uptoBulkAll parts + 1
  | .iface _ d => uptoBulk d + 1
  | .map entries => uptoBulkEntries entries + 1
  | .held _ => 1
def uptoBulkAll {H : Type} : List (DataW H) → Nat
  | [] => 0
  | d :: r => uptoBulk d + uptoBulkAll r
def uptoBulkEntries {H : Type} : List (Lit × DataW H) → Nat
  | [] => 0
  | x :: r => uptoBulkEntry x + uptoBulkEntries r
def uptoBulkEntry {H : Type} : Lit × DataW H → Nat
  | (.string bytes, d) => bytes.length + uptoBulk d + 1
  | (_, d) => uptoBulk d + 1
 end
def uptoSmall : (H : Type) → List (DataW H) → Bool := fun _ ds => decide (uptoBulkAll ds ≤ 1048576)
def OpenSpec.upto (s : _root_.Go.ChangeSpec) : _root_.Go.OpenSpec := { _root_.Go.OpenSpec.ofChange s with cond := some uptoSmall }

/-- 'soffitlaw11.PackEncodes', WHERE WHAT IT READS IS OF BULK AT MOST 1048576: true; the input reads as it did. -/
def packEncodesUptoRow : OpenClaim := { program := "ytfamomjgjamnoaadoor", sum := "a1772c3d8bd1ee07b5701675009b3877f369e6db4d618ff50326d68c09871d77", func := "soffit/soffitlaw11.PackEncodes", spec := "packEncodes", unfollowed := true, recurses := true, named := ["soffit/code.table"], apart := false, laid := [("soffit/code.table", laid_soffit_code_table)], narrowed := true }
def PackEncodesUptoSaid : Prop := packEncodesUptoRow.holds Tryd.pinned (OpenSpec.upto packEncodesSpec)

/-- 'soffitlaw11.PackDecodes', WHERE WHAT IT READS IS OF BULK AT MOST 1048576: true; the input reads as it did. -/
def packDecodesUptoRow : OpenClaim := { program := "ytfamomjgjamnoaadoor", sum := "a1772c3d8bd1ee07b5701675009b3877f369e6db4d618ff50326d68c09871d77", func := "soffit/soffitlaw11.PackDecodes", spec := "packDecodes", unfollowed := true, recurses := true, named := ["soffit/code.table"], apart := false, laid := [("soffit/code.table", laid_soffit_code_table)], narrowed := true }
def PackDecodesUptoSaid : Prop := packDecodesUptoRow.holds Tryd.pinned (OpenSpec.upto packDecodesSpec)

/-- 'soffitlaw11.PackBack', WHERE WHAT IT READS IS OF BULK AT MOST 1048576: true; the input reads as it did. -/
def packBackUptoRow : OpenClaim := { program := "ytfamomjgjamnoaadoor", sum := "a1772c3d8bd1ee07b5701675009b3877f369e6db4d618ff50326d68c09871d77", func := "soffit/soffitlaw11.PackBack", spec := "packBack", unfollowed := true, recurses := true, named := ["soffit/code.table"], apart := false, laid := [("soffit/code.table", laid_soffit_code_table)], narrowed := true }
def PackBackUptoSaid : Prop := packBackUptoRow.holds Tryd.pinned (OpenSpec.upto packBackSpec)

/-- 'soffitlaw11.PackCuts', WHERE WHAT IT READS IS OF BULK AT MOST 1048576: true; the input reads as it did. -/
def packCutsUptoRow : OpenClaim := { program := "ytfamomjgjamnoaadoor", sum := "a1772c3d8bd1ee07b5701675009b3877f369e6db4d618ff50326d68c09871d77", func := "soffit/soffitlaw11.PackCuts", spec := "packCuts", unfollowed := true, recurses := true, named := ["soffit/code.table"], apart := false, laid := [("soffit/code.table", laid_soffit_code_table)], narrowed := true }
def PackCutsUptoSaid : Prop := packCutsUptoRow.holds Tryd.pinned (OpenSpec.upto packCutsSpec)

end Rows
end Go.Proofs.YtfamomjgjamnoaaDoor
