/- What every card of this seat shares: a start at which the listed variable holds what the program's text lays, and what its list says of the table. -/
import Derived.Test.YtlnjhnbiljkbmaaDoorCards
import Derived.Test.YtlnjhnbiljkbmaaDoorTie
import Derived.Test.YtlnjhnbiljkbmaaDoorBf
import Derived.Test.YtlnjhnbiljkbmaaDoorJh
import Derived.Lib.LaidTab
namespace Go.Proofs.YtlnjhnbiljkbmaaDoor
open Go.ChangeShapes Go.WideShapes Go.ChangeAt Go.RowKit

/-- A block's cells, its tag and its frozen range kept. -/
def putCells (c : Array Value) : Obj → Obj
  | .cells _ t fz => .cells c t fz
  | o => o
def laidOf (w : World) : World := { w with heap := w.heap.modify 0 (putCells (Lib.deBruijn64tab.map fun (n : Nat) => Value.int .u8 (n : Int)).toArray) }
def dbT : List Int := Lib.deBruijn64tab.map fun (n : Nat) => (n : Int)
theorem db_laid : (Rows.laid_math_bits_deBruijn64tab : DataW Unit) = Lib.tabData .u8 dbT := by kernel_rfl
theorem gDb : Tryd.prog.globalNamed "math/bits.deBruijn64tab" = some 0 := by kernel_rfl
theorem gDbT : (Tryd.prog.globals[0]?).map (·.type) = some 77 := by kernel_rfl
theorem tb_of {W : World} (h : laidMetH Tryd.prog Rows.domClimbsRow.laid W) : 0 < W.heap.size ∧ Tb W := by
  have h1 : laidMet Tryd.prog (("math/bits.deBruijn64tab", Rows.laid_math_bits_deBruijn64tab) :: []) W := h
  rw [db_laid] at h1
  have ht := Lib.tabIs_of_head gDb gDbT Tryd.underlying77 Tryd.underlying5 (by kernel_rfl) (by kernel_rfl) h1
  have hc : Tb W := fun j hj => by
    have := ht.cell gDb j (by unfold dbT; rw [List.length_map]; exact hj)
    rw [this]
    congr 2
    unfold dbT
    rw [List.getD_eq_getElem?_getD, List.getD_eq_getElem?_getD, List.getElem?_map, List.getElem?_eq_getElem hj]
    rfl
  exact ⟨World.block_lt_of_cell? W _ (hc 0 (by decide)), hc⟩
end Go.Proofs.YtlnjhnbiljkbmaaDoor
