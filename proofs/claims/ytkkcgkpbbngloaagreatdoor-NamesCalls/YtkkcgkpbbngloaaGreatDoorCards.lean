/-
  DERIVED. GIVEN WITH THE SEED: THE CARDS: each row of YtkkcgkpbbngloaaGreatDoorRows.lean that lists a variable, with what it lists TIED to the program's text (the seventh form; the later family's looks); each row that meets fmt, with fmt's text TOLD by the authors' own Lean function (tested against real Go, not proved from fmt's source: count such statements apart). THE CARD IS WHAT COUNTS. Prove the row's statement (the work); the ties are given (YtkkcgkpbbngloaaGreatDoorTie.lean); close each card by the builder's one call (the guide's Derived/Test/ToyasCard.lean, 'card_holds'). Laid BY PROGRAM, IN A SANDBOX (cutbox-door.mjs). By AI agents, Wed Nov 11 2026. No macro, syntax, notation, axiom, sorry.
-/
import Derived.Test.YtkkcgkpbbngloaaGreatDoorRows
import GoSem.ClaimSeven
namespace Go.Proofs.YtkkcgkpbbngloaaGreatDoor
namespace Rows

/-- THE TIED CARD OF 'soffitlaw04.NamesCheck'. -/
def namesCheckCard : Claim7 := { stood := { row := namesCheckRow, standIns := [], harness := (true, "2443a78b543be6a719fea1ea4bf15812da89e55520fffcd65aaa139befd901d1"), looks := false }, kinds := [], alts := [], laidByText := true, laidKinds := [.data, .data], laidTests := true, laidLooks := .later }
def NamesCheckCardSaid : Prop := Claim7.holds Tryz.pinned (.plain (OpenSpec.ofChange namesCheckSpec)) namesCheckCard

/-- THE TIED CARD OF 'soffitlaw04.NamesCalls'. -/
def namesCallsCard : Claim7 := { stood := { row := namesCallsRow, standIns := [], harness := (true, "2443a78b543be6a719fea1ea4bf15812da89e55520fffcd65aaa139befd901d1"), looks := false }, kinds := [], alts := [], laidByText := true, laidKinds := [.data, .data], laidTests := true, laidLooks := .later }
def NamesCallsCardSaid : Prop := Claim7.holds Tryz.pinned (.plain (OpenSpec.ofChange namesCallsSpec)) namesCallsCard

/-- THE SECOND FORM's CARD OF 'soffitlaw04.NamesCheck'. -/
def namesCheckUptoCard : Claim7 := { stood := { row := namesCheckUptoRow, standIns := [], harness := (true, "2443a78b543be6a719fea1ea4bf15812da89e55520fffcd65aaa139befd901d1"), looks := false }, kinds := [], alts := [], laidByText := true, laidKinds := [.data, .data], laidTests := true, laidLooks := .later }
def NamesCheckUptoCardSaid : Prop := Claim7.holds Tryz.pinned (.plain (OpenSpec.upto namesCheckSpec)) namesCheckUptoCard

/-- THE SECOND FORM's CARD OF 'soffitlaw04.NamesCalls'. -/
def namesCallsUptoCard : Claim7 := { stood := { row := namesCallsUptoRow, standIns := [], harness := (true, "2443a78b543be6a719fea1ea4bf15812da89e55520fffcd65aaa139befd901d1"), looks := false }, kinds := [], alts := [], laidByText := true, laidKinds := [.data, .data], laidTests := true, laidLooks := .later }
def NamesCallsUptoCardSaid : Prop := Claim7.holds Tryz.pinned (.plain (OpenSpec.upto namesCallsSpec)) namesCallsUptoCard
end Rows
end Go.Proofs.YtkkcgkpbbngloaaGreatDoor
