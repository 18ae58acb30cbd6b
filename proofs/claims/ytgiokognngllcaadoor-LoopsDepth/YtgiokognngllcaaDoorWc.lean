/- law.LoopsDepth. -/
import Derived.Test.YtgiokognngllcaaDoorWb
namespace Go.Proofs.YtgiokognngllcaaDoor
open Go.RowKit Go.Sort

set_option maxRecDepth 100000 in
set_option maxHeartbeats 2000000 in
theorem lawDepth_any (ls : List Lp) (z : Int) (a : Option Addr) (c : Nat) (w : World) (h : LpsI w a ls) (hl : ls.length ≤ 1152921504606846976) (hm : ∀ l ∈ ls, l.ms.length ≤ 1152921504606846976) (hG : 1 < w.heap.size) (hT : Tb w) (hA : Tab w) :
    Calls Tryd.prog 4 #[.slice a ls.length c, .int .i64 z] w fun e w' => e = .returned (.bool true) ∧ Below w.heap.size w w' := by
  have HF := Hid.mk' (fixed_any w hG hT hA)
  have HL : Hid (∀ W, Below w.heap.size w W → Calls Tryd.prog 13 #[.slice a ls.length c, .int .i64 z] W fun e w' => e = .returned (.int .i64 (dpt ls z : Int)) ∧ Below W.heap.size W w') := fun W hb => ldepth_any ls z a c W (h.stay hb) hl hm
  have HR : Hid (∀ W, Below w.heap.size w W → Calls Tryd.prog 14 #[.slice a ls.length c, .int .i64 z] W fun e w' => e = .returned (.int .i64 (dpt ls z : Int)) ∧ w' = W) := fun W hb => rdepth_any ls z a c W (h.stay hb) hl hm
  clear h hl hm hG hT hA
  go_enter Tryd.func4, Tryd.ntmps4
  go_wp2_with fail
  refine HF.out.mono ?_
  rintro e W1 ⟨rfl, b1⟩
  have HB1 := Hid.mk' b1
  clear b1 HF
  go_wp2_with fail
  refine (HL.out _ HB1.out).mono ?_
  rintro e W2 ⟨rfl, b2⟩
  have HB2 := Hid.mk' (Below.on HB1.out b2)
  clear b2 HL HB1
  go_wp2_with fail
  refine (HR.out _ HB2.out).mono ?_
  rintro e W3 ⟨rfl, rfl⟩
  have hq : ((dpt ls z : Int) == (dpt ls z : Int)) = true := by simp
  go_wp2_with fail
  go_ret
  exact ⟨rfl, HB2.out⟩
end Go.Proofs.YtgiokognngllcaaDoor
