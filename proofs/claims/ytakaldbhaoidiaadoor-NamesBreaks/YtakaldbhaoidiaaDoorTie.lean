/-
  DERIVED. GIVEN WITH THE SEED: THE PROGRAM's TIES (one call each: nine closed facts by the kernel) AND EACH ROW's TIE, after the 31st guide's Derived/Test/Toyas{Tie, Card}.lean. No idea stands in it: it is a product of the set-up. Laid BY PROGRAM, IN A SANDBOX (cutbox-door.mjs). By AI agents, Wed Nov 11 2026. No macro, syntax, notation, axiom, sorry.
-/
import Derived.Test.YtakaldbhaoidiaaDoorRows
import Derived.LaidByTextLater
import Derived.SevenTiedAt
import Derived.LaidSub
import Derived.LaidOnce
namespace Go.Proofs.YtakaldbhaoidiaaDoor
open Go
set_option maxRecDepth 100000
theorem seatTie1 : Tryd.prog.laidByTextLater [("soffit/tree.stmtFields", Rows.laid_soffit_tree_stmtFields), ("soffit/tree.exprForms", Rows.laid_soffit_tree_exprForms)] [.data, .data] true :=
  Program.laidByTextLater_by_one 39 8 85 (by kernel_rfl) (by kernel_rfl) (by kernel_rfl) (by kernel_rfl) (by kernel_rfl) (by kernel_rfl) (fun _ _ => by kernel_rfl)
theorem noOwnUnsafe : Tryd.pinned.checked.prog.headLifts.contains "ownunsafe" = false := by kernel_rfl
theorem tie : Tryd.prog.laidByTextLater [("soffit/tree.stmtFields", Rows.laid_soffit_tree_stmtFields), ("soffit/tree.exprForms", Rows.laid_soffit_tree_exprForms)] [.data, .data] true :=
  Program.laidByTextLater.sub seatTie1 ["soffit/tree.stmtFields", "soffit/tree.exprForms"] (by kernel_rfl) (by kernel_rfl)
theorem namesBreaks_row_tie : Rows.namesBreaksRow.laidByTextAt .later Tryd.pinned [.data, .data] true :=
  OpenClaim.laidByTextAt_later rfl rfl tie noOwnUnsafe
theorem namesBreaksUpto_row_tie : Rows.namesBreaksUptoRow.laidByTextAt .later Tryd.pinned [.data, .data] true :=
  OpenClaim.laidByTextAt_later rfl rfl tie noOwnUnsafe
end Go.Proofs.YtakaldbhaoidiaaDoor
