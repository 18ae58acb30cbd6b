/- The first statement: numbers, and the first question. -/
import Derived.Test.YtbpemackmadhgaaDoorW2
namespace Go.Proofs.YtbpemackmadhgaaDoor
open Go.RowKit Go.Sort

set_option maxHeartbeats 4000000 in
theorem treeNames_any (w : World) (ht : Tabs w) (hnt : NumT w) : Calls Tryd.prog 3 #[] w fun e w' => e = .returned (.bool true) ∧ Below w.heap.size w w' := by
  have HA : Hid (Calls Tryd.prog 7 #[] w fun e w' => e = .returned (.bool true) ∧ Below w.heap.size w w') := awake_any w ht hnt
  clear ht hnt
  go_enter Tryd.func3, Tryd.ntmps3
  go_wp2_with fail
  refine HA.out.mono ?_
  rintro e w1 ⟨rfl, hb⟩
  go_wp2_with fail
  go_ret
  exact ⟨rfl, hb⟩
end Go.Proofs.YtbpemackmadhgaaDoor
