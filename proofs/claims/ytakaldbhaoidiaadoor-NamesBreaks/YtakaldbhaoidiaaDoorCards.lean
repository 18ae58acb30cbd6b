/-
  DERIVED. GIVEN WITH THE SEED: THE CARDS: each row of YtakaldbhaoidiaaDoorRows.lean that lists a variable, with what it lists TIED to the program's text (the seventh form; the later family's looks); each row that meets fmt, with fmt's text TOLD by the authors' own Lean function (tested against real Go, not proved from fmt's source: count such statements apart). THE CARD IS WHAT COUNTS. Prove the row's statement (the work); the ties are given (YtakaldbhaoidiaaDoorTie.lean); close each card by the builder's one call (the guide's Derived/Test/ToyasCard.lean, 'card_holds'). Laid BY PROGRAM, IN A SANDBOX (cutbox-door.mjs). By AI agents, Wed Nov 11 2026. No macro, syntax, notation, axiom, sorry.
-/
import Derived.Test.YtakaldbhaoidiaaDoorRows
import GoSem.ClaimSeven
namespace Go.Proofs.YtakaldbhaoidiaaDoor
namespace Rows

/-- THE TIED CARD OF 'soffitlaw04.NamesBreaks'. -/
def namesBreaksCard : Claim7 := { stood := { row := namesBreaksRow, standIns := [], harness := (true, "bc24462b850ad8d587effe9f9cbf55921eea9ffc3bbd7884783d0eaae035dc9c"), looks := false }, kinds := [], alts := [], laidByText := true, laidKinds := [.data, .data], laidTests := true, laidLooks := .later }
def NamesBreaksCardSaid : Prop := Claim7.holds Tryd.pinned (.plain (OpenSpec.ofChange namesBreaksSpec)) namesBreaksCard

/-- THE SECOND FORM's CARD OF 'soffitlaw04.NamesBreaks'. -/
def namesBreaksUptoCard : Claim7 := { stood := { row := namesBreaksUptoRow, standIns := [], harness := (true, "bc24462b850ad8d587effe9f9cbf55921eea9ffc3bbd7884783d0eaae035dc9c"), looks := false }, kinds := [], alts := [], laidByText := true, laidKinds := [.data, .data], laidTests := true, laidLooks := .later }
def NamesBreaksUptoCardSaid : Prop := Claim7.holds Tryd.pinned (.plain (OpenSpec.upto namesBreaksSpec)) namesBreaksUptoCard
end Rows
end Go.Proofs.YtakaldbhaoidiaaDoor
