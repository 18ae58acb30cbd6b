/-
  DERIVED. GIVEN WITH THE SEED: THE CARDS: each row of YtkkcgkpbbngloaaDoorRows.lean that lists a variable, with what it lists TIED to the program's text (the seventh form; the later family's looks); each row that meets fmt, with fmt's text TOLD by the authors' own Lean function (tested against real Go, not proved from fmt's source: count such statements apart). THE CARD IS WHAT COUNTS. Prove the row's statement (the work); the ties are given (YtkkcgkpbbngloaaDoorTie.lean); close each card by the builder's one call (the guide's Derived/Test/ToyasCard.lean, 'card_holds'). Laid BY PROGRAM, IN A SANDBOX (cutbox-door.mjs). By AI agents, Wed Nov 11 2026. No macro, syntax, notation, axiom, sorry.
-/
import Derived.Test.YtkkcgkpbbngloaaDoorRows
import GoSem.ClaimSeven
namespace Go.Proofs.YtkkcgkpbbngloaaDoor
namespace Rows

/-- THE TIED CARD OF 'soffitlaw04.NamesNames'. -/
def namesNamesCard : Claim7 := { stood := { row := namesNamesRow, standIns := [], harness := (true, "dc571ede21da79ccaaf78c34e8e6501353e47b6b5d14b95cd95c9604b9db9ff2"), looks := false }, kinds := [], alts := [], laidByText := true, laidKinds := [.data, .data], laidTests := true, laidLooks := .later }
def NamesNamesCardSaid : Prop := Claim7.holds Tryd.pinned (.plain (OpenSpec.ofChange namesNamesSpec)) namesNamesCard

/-- THE TIED CARD OF 'soffitlaw04.NamesAhead'. -/
def namesAheadCard : Claim7 := { stood := { row := namesAheadRow, standIns := [], harness := (true, "dc571ede21da79ccaaf78c34e8e6501353e47b6b5d14b95cd95c9604b9db9ff2"), looks := false }, kinds := [], alts := [], laidByText := true, laidKinds := [.data, .data], laidTests := true, laidLooks := .later }
def NamesAheadCardSaid : Prop := Claim7.holds Tryd.pinned (.plain (OpenSpec.ofChange namesAheadSpec)) namesAheadCard

/-- THE TIED CARD OF 'soffitlaw04.NamesBreaks'. -/
def namesBreaksCard : Claim7 := { stood := { row := namesBreaksRow, standIns := [], harness := (true, "dc571ede21da79ccaaf78c34e8e6501353e47b6b5d14b95cd95c9604b9db9ff2"), looks := false }, kinds := [], alts := [], laidByText := true, laidKinds := [.data, .data], laidTests := true, laidLooks := .later }
def NamesBreaksCardSaid : Prop := Claim7.holds Tryd.pinned (.plain (OpenSpec.ofChange namesBreaksSpec)) namesBreaksCard

/-- THE TIED CARD OF 'soffitlaw04.NamesKeeps'. -/
def namesKeepsCard : Claim7 := { stood := { row := namesKeepsRow, standIns := [], harness := (true, "dc571ede21da79ccaaf78c34e8e6501353e47b6b5d14b95cd95c9604b9db9ff2"), looks := false }, kinds := [], alts := [], laidByText := true, laidKinds := [.data, .data], laidTests := true, laidLooks := .later }
def NamesKeepsCardSaid : Prop := Claim7.holds Tryd.pinned (.plain (OpenSpec.ofChange namesKeepsSpec)) namesKeepsCard

/-- THE SECOND FORM's CARD OF 'soffitlaw04.NamesNames'. -/
def namesNamesUptoCard : Claim7 := { stood := { row := namesNamesUptoRow, standIns := [], harness := (true, "dc571ede21da79ccaaf78c34e8e6501353e47b6b5d14b95cd95c9604b9db9ff2"), looks := false }, kinds := [], alts := [], laidByText := true, laidKinds := [.data, .data], laidTests := true, laidLooks := .later }
def NamesNamesUptoCardSaid : Prop := Claim7.holds Tryd.pinned (.plain (OpenSpec.upto namesNamesSpec)) namesNamesUptoCard

/-- THE SECOND FORM's CARD OF 'soffitlaw04.NamesAhead'. -/
def namesAheadUptoCard : Claim7 := { stood := { row := namesAheadUptoRow, standIns := [], harness := (true, "dc571ede21da79ccaaf78c34e8e6501353e47b6b5d14b95cd95c9604b9db9ff2"), looks := false }, kinds := [], alts := [], laidByText := true, laidKinds := [.data, .data], laidTests := true, laidLooks := .later }
def NamesAheadUptoCardSaid : Prop := Claim7.holds Tryd.pinned (.plain (OpenSpec.upto namesAheadSpec)) namesAheadUptoCard

/-- THE SECOND FORM's CARD OF 'soffitlaw04.NamesBreaks'. -/
def namesBreaksUptoCard : Claim7 := { stood := { row := namesBreaksUptoRow, standIns := [], harness := (true, "dc571ede21da79ccaaf78c34e8e6501353e47b6b5d14b95cd95c9604b9db9ff2"), looks := false }, kinds := [], alts := [], laidByText := true, laidKinds := [.data, .data], laidTests := true, laidLooks := .later }
def NamesBreaksUptoCardSaid : Prop := Claim7.holds Tryd.pinned (.plain (OpenSpec.upto namesBreaksSpec)) namesBreaksUptoCard

/-- THE SECOND FORM's CARD OF 'soffitlaw04.NamesKeeps'. -/
def namesKeepsUptoCard : Claim7 := { stood := { row := namesKeepsUptoRow, standIns := [], harness := (true, "dc571ede21da79ccaaf78c34e8e6501353e47b6b5d14b95cd95c9604b9db9ff2"), looks := false }, kinds := [], alts := [], laidByText := true, laidKinds := [.data, .data], laidTests := true, laidLooks := .later }
def NamesKeepsUptoCardSaid : Prop := Claim7.holds Tryd.pinned (.plain (OpenSpec.upto namesKeepsSpec)) namesKeepsUptoCard
end Rows
end Go.Proofs.YtkkcgkpbbngloaaDoor
