/- The program's table; what is told of an operation. -/
import Derived.Test.YtdnilonfgbinaaaMb
import Derived.Test.YtdnilonfgbinaaaProg
import Derived.Lib.QuietBelow
import Derived.Deep.RegionHeld3
import Derived.Laws.StructEq
import Derived.Deep.Cut
import Derived.Deep.CutRange
import Derived.Deep.CutBlock
namespace Go.Proofs.Ytdnilonfgbinaaa
open Go.RowKit Go.Sort

set_option maxHeartbeats 400000 in
theorem known_any (op : Int) (w : World) : Calls Try.prog 61 #[.int .i64 op] w fun e w' => e = .returned (.bool (knB op)) ∧ w' = w := by
  by_cases h : 0 ≤ op
  all_goals
    go_enter Try.func61, Try.ntmps61
    go_wp2
    go_ret
    exact ⟨ret_bool (by simp [knB]; try omega), rfl⟩

theorem _root_.Go.RowKit.Below.drewN {B : Nat} {w w' : World} (h : Below B w w') (n : Nat) : Below B w (w'.drewN n) := h.trans ⟨rfl, rfl, rfl, Nat.le_refl _, fun _ _ => rfl⟩
theorem cell_kept_below {W W' : World} {p : Addr} {v : Value} (h : W.cell? p = some v) (hb : Below W.heap.size W W') : W'.cell? p = some v := (hb.cell (lt_of_cell h)).trans h
theorem new_cell (w : World) (cs : Array Value) (t : TypeId) (j : Nat) (v : Value) (h : cs[j]? = some v) : (w.alloc (.cells cs t)).cell? ⟨w.heap.size, j, none⟩ = some v := (World.cell?_alloc_at cs t _ _ rfl).trans h
end Go.Proofs.Ytdnilonfgbinaaa
