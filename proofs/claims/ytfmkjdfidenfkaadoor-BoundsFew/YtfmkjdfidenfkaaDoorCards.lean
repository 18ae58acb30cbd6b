/-
  DERIVED. GIVEN WITH THE SEED: THE CARDS: each row of YtfmkjdfidenfkaaDoorRows.lean that lists a variable, with what it lists TIED to the program's text (the seventh form; the later family's looks); each row that meets fmt, with fmt's text TOLD by the authors' own Lean function (tested against real Go, not proved from fmt's source: count such statements apart). THE CARD IS WHAT COUNTS. Prove the row's statement (the work); the ties are given (YtfmkjdfidenfkaaDoorTie.lean); close each card by the builder's one call (the guide's Derived/Test/ToyasCard.lean, 'card_holds'). Laid BY PROGRAM, IN A SANDBOX (cutbox-door.mjs). By AI agents, Wed Nov 11 2026. No macro, syntax, notation, axiom, sorry.
-/
import Derived.Test.YtfmkjdfidenfkaaDoorRows
import GoSem.ClaimSeven
namespace Go.Proofs.YtfmkjdfidenfkaaDoor
namespace Rows

/-- THE TIED CARD OF 'soffitlaw16.BoundsFew'. -/
def boundsFewCard : Claim7 := { stood := { row := boundsFewRow, standIns := [], harness := (true, "a246ddce72c23039f9eaa67970c5a40703e3a5377125eb986736efc88a8188da"), looks := false }, kinds := [], alts := [], laidByText := true, laidKinds := [.data], laidTests := true, laidLooks := .later }
def BoundsFewCardSaid : Prop := Claim7.holds Tryd.pinned (.plain (OpenSpec.ofChange boundsFewSpec)) boundsFewCard

/-- THE TIED CARD OF 'soffitlaw16.BoundsCloses'. -/
def boundsClosesCard : Claim7 := { stood := { row := boundsClosesRow, standIns := [], harness := (true, "a246ddce72c23039f9eaa67970c5a40703e3a5377125eb986736efc88a8188da"), looks := false }, kinds := [], alts := [], laidByText := true, laidKinds := [.data], laidTests := true, laidLooks := .later }
def BoundsClosesCardSaid : Prop := Claim7.holds Tryd.pinned (.plain (OpenSpec.ofChange boundsClosesSpec)) boundsClosesCard

/-- THE TIED CARD OF 'soffitlaw16.BoundsWay'. -/
def boundsWayCard : Claim7 := { stood := { row := boundsWayRow, standIns := [], harness := (true, "a246ddce72c23039f9eaa67970c5a40703e3a5377125eb986736efc88a8188da"), looks := false }, kinds := [], alts := [], laidByText := true, laidKinds := [.data], laidTests := true, laidLooks := .later }
def BoundsWayCardSaid : Prop := Claim7.holds Tryd.pinned (.plain (OpenSpec.ofChange boundsWaySpec)) boundsWayCard

/-- THE TIED CARD OF 'soffitlaw16.BoundsTrue'. -/
def boundsTrueCard : Claim7 := { stood := { row := boundsTrueRow, standIns := [], harness := (true, "a246ddce72c23039f9eaa67970c5a40703e3a5377125eb986736efc88a8188da"), looks := false }, kinds := [], alts := [], laidByText := true, laidKinds := [.data], laidTests := true, laidLooks := .later }
def BoundsTrueCardSaid : Prop := Claim7.holds Tryd.pinned (.plain (OpenSpec.ofChange boundsTrueSpec)) boundsTrueCard

/-- THE SECOND FORM's CARD OF 'soffitlaw16.BoundsFew'. -/
def boundsFewUptoCard : Claim7 := { stood := { row := boundsFewUptoRow, standIns := [], harness := (true, "a246ddce72c23039f9eaa67970c5a40703e3a5377125eb986736efc88a8188da"), looks := false }, kinds := [], alts := [], laidByText := true, laidKinds := [.data], laidTests := true, laidLooks := .later }
def BoundsFewUptoCardSaid : Prop := Claim7.holds Tryd.pinned (.plain (OpenSpec.upto boundsFewSpec)) boundsFewUptoCard

/-- THE SECOND FORM's CARD OF 'soffitlaw16.BoundsCloses'. -/
def boundsClosesUptoCard : Claim7 := { stood := { row := boundsClosesUptoRow, standIns := [], harness := (true, "a246ddce72c23039f9eaa67970c5a40703e3a5377125eb986736efc88a8188da"), looks := false }, kinds := [], alts := [], laidByText := true, laidKinds := [.data], laidTests := true, laidLooks := .later }
def BoundsClosesUptoCardSaid : Prop := Claim7.holds Tryd.pinned (.plain (OpenSpec.upto boundsClosesSpec)) boundsClosesUptoCard

/-- THE SECOND FORM's CARD OF 'soffitlaw16.BoundsWay'. -/
def boundsWayUptoCard : Claim7 := { stood := { row := boundsWayUptoRow, standIns := [], harness := (true, "a246ddce72c23039f9eaa67970c5a40703e3a5377125eb986736efc88a8188da"), looks := false }, kinds := [], alts := [], laidByText := true, laidKinds := [.data], laidTests := true, laidLooks := .later }
def BoundsWayUptoCardSaid : Prop := Claim7.holds Tryd.pinned (.plain (OpenSpec.upto boundsWaySpec)) boundsWayUptoCard

/-- THE SECOND FORM's CARD OF 'soffitlaw16.BoundsTrue'. -/
def boundsTrueUptoCard : Claim7 := { stood := { row := boundsTrueUptoRow, standIns := [], harness := (true, "a246ddce72c23039f9eaa67970c5a40703e3a5377125eb986736efc88a8188da"), looks := false }, kinds := [], alts := [], laidByText := true, laidKinds := [.data], laidTests := true, laidLooks := .later }
def BoundsTrueUptoCardSaid : Prop := Claim7.holds Tryd.pinned (.plain (OpenSpec.upto boundsTrueSpec)) boundsTrueUptoCard
end Rows
end Go.Proofs.YtfmkjdfidenfkaaDoor
