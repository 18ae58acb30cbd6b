/- ref14.sameInts over any numbers (as stage 13 has it). -/
import Derived.Test.YtgiokognngllcaaDoorGgan
namespace Go.Proofs.YtgiokognngllcaaDoor
open Go.RowKit Go.Sort

set_option maxRecDepth 100000 in
set_option maxHeartbeats 2000000 in
theorem sameInts_i (xs ys : List Int) (a a' : Option Addr) (c c' : Nat) (w : World) (h : Lst w a (xs.map iV)) (h' : Lst w a' (ys.map iV)) (hl : xs.length ≤ 1000000) : Calls Tryd.prog 30 #[.slice a xs.length c, .slice a' ys.length c'] w fun e w' => e = .returned (.bool (decide (xs = ys))) ∧ Below w.heap.size w w' := by
  have HH := Hid.mk' h
  have HH' := Hid.mk' h'
  have hb0 := Below.refl w.heap.size w
  clear h h'
  by_cases hll : xs.length = ys.length
  · have HL := Hid.mk' hll
    have hq : ((xs.length : Int) != (ys.length : Int)) = false := bne_no (by omega)
    clear hll
    go_enter Tryd.func30, Tryd.ntmps30
    go_wp2_with fail
    go_loopw [5] (fun t wr => ∃ (j : Nat), j ≤ xs.length ∧ t = .int .i64 j ∧ xs.take j = ys.take j ∧ Below w.heap.size w wr) (fun t _ => xs.length - (intOf t).toNat)
    case atStart => exact ⟨0, Nat.zero_le _, rfl, by simp, hb0⟩
    case round =>
      obtain ⟨j, hj, rfl, hn, hb⟩ := hrel
      have HN := Hid.mk' hn
      clear hn
      by_cases hlt : j < xs.length
      · have hlt' : j < ys.length := by have := HL.out; omega
        obtain ⟨b, o, rfl, c0⟩ := lst_i (HH.out.stay hb) hlt
        obtain ⟨b', o', rfl, c0'⟩ := lst_i (HH'.out.stay hb) hlt'
        have hli : (j : Int) < (xs.length : Int) := by omega
        have hli' : (j : Int) < (ys.length : Int) := by omega
        have HE := Hid.mk' (next_eq HN.out hlt hlt')
        have HP := Hid.mk' (part_ne hlt hlt')
        generalize xs[j] = x at *
        generalize ys[j] = y at *
        clear hlt'
        by_cases e : x = y
        · have hq2 : (x != y) = false := bne_no (by omega)
          have HE2 := Hid.mk' (HE.out e)
          clear e HE HP
          go_upto_region 6 with fail
          go_region
          go_wp2_with fail
          go_roundw
          case rel => exact ⟨j + 1, by omega, by go_num, HE2.out, hb.drewN _⟩
          case measure => simp [intOf]; omega
        · have hq2 : (x != y) = true := bne_of (by omega)
          have HE2 := Hid.mk' (HP.out e)
          clear e HE HP
          go_upto_region 6 with fail
          go_region
          go_wp2_with fail
          go_ret
          exact ⟨ret_bool (by rw [decide_eq_false HE2.out]), hb.drewN _⟩
      · go_wp2_with fail
        go_ret
        exact ⟨ret_bool (by rw [decide_eq_true (done_eq HL.out HN.out hlt)]), hb⟩
  · have hq : ((xs.length : Int) != (ys.length : Int)) = true := bne_of (by omega)
    have HE2 : Hid (¬ xs = ys) := fun e => hll (by rw [e])
    clear hll
    go_enter Tryd.func30, Tryd.ntmps30
    go_wp2_with fail
    go_ret
    exact ⟨ret_bool (by rw [decide_eq_false HE2.out]), hb0⟩
end Go.Proofs.YtgiokognngllcaaDoor
