/-
  DERIVED. GIVEN WITH THE SEED: THE CARDS: each row of YtkkcgkpbbngloabDoorRows.lean that lists a variable, with what it lists TIED to the program's text (the seventh form; the later family's looks); each row that meets fmt, with fmt's text TOLD by the authors' own Lean function (tested against real Go, not proved from fmt's source: count such statements apart). THE CARD IS WHAT COUNTS. Prove the row's statement (the work); the ties are given (YtkkcgkpbbngloabDoorTie.lean); close each card by the builder's one call (the guide's Derived/Test/ToyasCard.lean, 'card_holds'). Laid BY PROGRAM, IN A SANDBOX (cutbox-door.mjs). By AI agents, Wed Nov 11 2026. No macro, syntax, notation, axiom, sorry.
-/
import Derived.Test.YtkkcgkpbbngloabDoorRows
import GoSem.ClaimSeven
namespace Go.Proofs.YtkkcgkpbbngloabDoor
namespace Rows

/-- THE TIED CARD OF 'soffitlaw04.NamesWraps'. -/
def namesWrapsCard : Claim7 := { stood := { row := namesWrapsRow, standIns := [], harness := (true, "4f9e71d4128750a716454119f88ce0996373740a93c4c73aa78cb6b5037cac64"), looks := false }, kinds := [], alts := [], laidByText := true, laidKinds := [.data, .data], laidTests := true, laidLooks := .later }
def NamesWrapsCardSaid : Prop := Claim7.holds Tryd.pinned (.plain (OpenSpec.ofChange namesWrapsSpec)) namesWrapsCard

/-- THE SECOND FORM's CARD OF 'soffitlaw04.NamesWraps'. -/
def namesWrapsUptoCard : Claim7 := { stood := { row := namesWrapsUptoRow, standIns := [], harness := (true, "4f9e71d4128750a716454119f88ce0996373740a93c4c73aa78cb6b5037cac64"), looks := false }, kinds := [], alts := [], laidByText := true, laidKinds := [.data, .data], laidTests := true, laidLooks := .later }
def NamesWrapsUptoCardSaid : Prop := Claim7.holds Tryd.pinned (.plain (OpenSpec.upto namesWrapsSpec)) namesWrapsUptoCard
end Rows
end Go.Proofs.YtkkcgkpbbngloabDoor
