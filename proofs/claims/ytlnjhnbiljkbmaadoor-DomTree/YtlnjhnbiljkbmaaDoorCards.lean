/-
  DERIVED. GIVEN WITH THE SEED: THE CARDS: each row of YtlnjhnbiljkbmaaDoorRows.lean that lists a variable, with what it lists TIED to the program's text (the seventh form; the later family's looks); each row that meets fmt, with fmt's text TOLD by the authors' own Lean function (tested against real Go, not proved from fmt's source: count such statements apart). THE CARD IS WHAT COUNTS. Prove the row's statement (the work); the ties are given (YtlnjhnbiljkbmaaDoorTie.lean); close each card by the builder's one call (the guide's Derived/Test/ToyasCard.lean, 'card_holds'). Laid BY PROGRAM, IN A SANDBOX (cutbox-door.mjs). By AI agents, Wed Nov 11 2026. No macro, syntax, notation, axiom, sorry.
-/
import Derived.Test.YtlnjhnbiljkbmaaDoorRows
import GoSem.ClaimSeven
namespace Go.Proofs.YtlnjhnbiljkbmaaDoor
namespace Rows

/-- THE TIED CARD OF 'soffitlaw13.DomAsks'. -/
def domAsksCard : Claim7 := { stood := { row := domAsksRow, standIns := [], harness := (true, "de71000163d80b7b442a5507efd7f9abe5c8edd3b61ac6de073ea5c3d6607018"), looks := false }, kinds := [], alts := [], laidByText := true, laidKinds := [.data], laidTests := true, laidLooks := .later }
def DomAsksCardSaid : Prop := Claim7.holds Tryd.pinned (.plain (OpenSpec.ofChange domAsksSpec)) domAsksCard

/-- THE TIED CARD OF 'soffitlaw13.DomTree'. -/
def domTreeCard : Claim7 := { stood := { row := domTreeRow, standIns := [], harness := (true, "de71000163d80b7b442a5507efd7f9abe5c8edd3b61ac6de073ea5c3d6607018"), looks := false }, kinds := [], alts := [], laidByText := true, laidKinds := [.data], laidTests := true, laidLooks := .later }
def DomTreeCardSaid : Prop := Claim7.holds Tryd.pinned (.plain (OpenSpec.ofChange domTreeSpec)) domTreeCard

/-- THE TIED CARD OF 'soffitlaw13.DomClimbs'. -/
def domClimbsCard : Claim7 := { stood := { row := domClimbsRow, standIns := [], harness := (true, "de71000163d80b7b442a5507efd7f9abe5c8edd3b61ac6de073ea5c3d6607018"), looks := false }, kinds := [], alts := [], laidByText := true, laidKinds := [.data], laidTests := true, laidLooks := .later }
def DomClimbsCardSaid : Prop := Claim7.holds Tryd.pinned (.plain (OpenSpec.ofChange domClimbsSpec)) domClimbsCard

/-- THE TIED CARD OF 'soffitlaw13.DomEdges'. -/
def domEdgesCard : Claim7 := { stood := { row := domEdgesRow, standIns := [], harness := (true, "de71000163d80b7b442a5507efd7f9abe5c8edd3b61ac6de073ea5c3d6607018"), looks := false }, kinds := [], alts := [], laidByText := true, laidKinds := [.data], laidTests := true, laidLooks := .later }
def DomEdgesCardSaid : Prop := Claim7.holds Tryd.pinned (.plain (OpenSpec.ofChange domEdgesSpec)) domEdgesCard

/-- THE SECOND FORM's CARD OF 'soffitlaw13.DomAsks'. -/
def domAsksUptoCard : Claim7 := { stood := { row := domAsksUptoRow, standIns := [], harness := (true, "de71000163d80b7b442a5507efd7f9abe5c8edd3b61ac6de073ea5c3d6607018"), looks := false }, kinds := [], alts := [], laidByText := true, laidKinds := [.data], laidTests := true, laidLooks := .later }
def DomAsksUptoCardSaid : Prop := Claim7.holds Tryd.pinned (.plain (OpenSpec.upto domAsksSpec)) domAsksUptoCard

/-- THE SECOND FORM's CARD OF 'soffitlaw13.DomTree'. -/
def domTreeUptoCard : Claim7 := { stood := { row := domTreeUptoRow, standIns := [], harness := (true, "de71000163d80b7b442a5507efd7f9abe5c8edd3b61ac6de073ea5c3d6607018"), looks := false }, kinds := [], alts := [], laidByText := true, laidKinds := [.data], laidTests := true, laidLooks := .later }
def DomTreeUptoCardSaid : Prop := Claim7.holds Tryd.pinned (.plain (OpenSpec.upto domTreeSpec)) domTreeUptoCard

/-- THE SECOND FORM's CARD OF 'soffitlaw13.DomClimbs'. -/
def domClimbsUptoCard : Claim7 := { stood := { row := domClimbsUptoRow, standIns := [], harness := (true, "de71000163d80b7b442a5507efd7f9abe5c8edd3b61ac6de073ea5c3d6607018"), looks := false }, kinds := [], alts := [], laidByText := true, laidKinds := [.data], laidTests := true, laidLooks := .later }
def DomClimbsUptoCardSaid : Prop := Claim7.holds Tryd.pinned (.plain (OpenSpec.upto domClimbsSpec)) domClimbsUptoCard

/-- THE SECOND FORM's CARD OF 'soffitlaw13.DomEdges'. -/
def domEdgesUptoCard : Claim7 := { stood := { row := domEdgesUptoRow, standIns := [], harness := (true, "de71000163d80b7b442a5507efd7f9abe5c8edd3b61ac6de073ea5c3d6607018"), looks := false }, kinds := [], alts := [], laidByText := true, laidKinds := [.data], laidTests := true, laidLooks := .later }
def DomEdgesUptoCardSaid : Prop := Claim7.holds Tryd.pinned (.plain (OpenSpec.upto domEdgesSpec)) domEdgesUptoCard
end Rows
end Go.Proofs.YtlnjhnbiljkbmaaDoor
