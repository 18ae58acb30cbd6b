/-
  DERIVED. GIVEN WITH THE SEED: THE CARDS: each row of YtbpemackmadhgabDoorRows.lean that lists a variable, with what it lists TIED to the program's text (the seventh form; the later family's looks); each row that meets fmt, with fmt's text TOLD by the authors' own Lean function (tested against real Go, not proved from fmt's source: count such statements apart). THE CARD IS WHAT COUNTS. Prove the row's statement (the work); the ties are given (YtbpemackmadhgabDoorTie.lean); close each card by the builder's one call (the guide's Derived/Test/ToyasCard.lean, 'card_holds'). Laid BY PROGRAM, IN A SANDBOX (cutbox-door.mjs). By AI agents, Wed Nov 11 2026. No macro, syntax, notation, axiom, sorry.
-/
import Derived.Test.YtbpemackmadhgabDoorRows
import GoSem.ClaimSeven
namespace Go.Proofs.YtbpemackmadhgabDoor
namespace Rows

/-- THE TIED CARD OF 'soffitlaw02.TreeBreaks'. -/
def treeBreaksCard : Claim7 := { stood := { row := treeBreaksRow, standIns := [], harness := (true, "c2042b81f1466331f24decd9c869230ac99b8fcc3eb0faa0a7ce74638e0924d5"), looks := false }, kinds := [], alts := [], laidByText := true, laidKinds := [.data, .data, .data, .data, .data], laidTests := true, laidLooks := .later }
def TreeBreaksCardSaid : Prop := Claim7.holds Tryd.pinned (.plain (OpenSpec.ofChange treeBreaksSpec)) treeBreaksCard

/-- THE TIED CARD OF 'soffitlaw02.TreeKeeps'. -/
def treeKeepsCard : Claim7 := { stood := { row := treeKeepsRow, standIns := [], harness := (true, "c2042b81f1466331f24decd9c869230ac99b8fcc3eb0faa0a7ce74638e0924d5"), looks := false }, kinds := [], alts := [], laidByText := true, laidKinds := [.data, .data, .data, .data, .data], laidTests := true, laidLooks := .later }
def TreeKeepsCardSaid : Prop := Claim7.holds Tryd.pinned (.plain (OpenSpec.ofChange treeKeepsSpec)) treeKeepsCard

/-- THE TIED CARD OF 'soffitlaw02.TreeLines'. -/
def treeLinesCard : Claim7 := { stood := { row := treeLinesRow, standIns := [], harness := (true, "c2042b81f1466331f24decd9c869230ac99b8fcc3eb0faa0a7ce74638e0924d5"), looks := false }, kinds := [], alts := [], laidByText := true, laidKinds := [.data, .data, .data, .data, .data], laidTests := true, laidLooks := .later }
def TreeLinesCardSaid : Prop := Claim7.holds Tryd.pinned (.plain (OpenSpec.ofChange treeLinesSpec)) treeLinesCard

/-- THE SECOND FORM's CARD OF 'soffitlaw02.TreeBreaks'. -/
def treeBreaksUptoCard : Claim7 := { stood := { row := treeBreaksUptoRow, standIns := [], harness := (true, "c2042b81f1466331f24decd9c869230ac99b8fcc3eb0faa0a7ce74638e0924d5"), looks := false }, kinds := [], alts := [], laidByText := true, laidKinds := [.data, .data, .data, .data, .data], laidTests := true, laidLooks := .later }
def TreeBreaksUptoCardSaid : Prop := Claim7.holds Tryd.pinned (.plain (OpenSpec.upto treeBreaksSpec)) treeBreaksUptoCard

/-- THE SECOND FORM's CARD OF 'soffitlaw02.TreeKeeps'. -/
def treeKeepsUptoCard : Claim7 := { stood := { row := treeKeepsUptoRow, standIns := [], harness := (true, "c2042b81f1466331f24decd9c869230ac99b8fcc3eb0faa0a7ce74638e0924d5"), looks := false }, kinds := [], alts := [], laidByText := true, laidKinds := [.data, .data, .data, .data, .data], laidTests := true, laidLooks := .later }
def TreeKeepsUptoCardSaid : Prop := Claim7.holds Tryd.pinned (.plain (OpenSpec.upto treeKeepsSpec)) treeKeepsUptoCard

/-- THE SECOND FORM's CARD OF 'soffitlaw02.TreeLines'. -/
def treeLinesUptoCard : Claim7 := { stood := { row := treeLinesUptoRow, standIns := [], harness := (true, "c2042b81f1466331f24decd9c869230ac99b8fcc3eb0faa0a7ce74638e0924d5"), looks := false }, kinds := [], alts := [], laidByText := true, laidKinds := [.data, .data, .data, .data, .data], laidTests := true, laidLooks := .later }
def TreeLinesUptoCardSaid : Prop := Claim7.holds Tryd.pinned (.plain (OpenSpec.upto treeLinesSpec)) treeLinesUptoCard
end Rows
end Go.Proofs.YtbpemackmadhgabDoor
