/- The function that code.arguments hands back: the registers of a call's arguments, in their order. -/
import Derived.RangeFuncNested
import Derived.RangeFuncBound
import Derived.RangeFuncCalls
import Derived.RangeFuncLeaves
import Derived.Shelf.Abstract
import Derived.Shelf.RegionOpen
import Derived.WalkKit
import Derived.OwnWalkIn
import Derived.TacticsInMore
import Derived.LoopNIn
import Derived.LoopIn
import Derived.Test.YtlkoigdnakmdlaaDoorCa
namespace Go.Proofs.YtlkoigdnakmdlaaDoor
open Go.RowKit Go.Shelf
attribute [local go_sem] Oper.semAt_some

abbrev encN (x : Int) : Array Value := #[.int .i64 x]
/-- What a round that goes on keeps: two boxes. -/
def KpB (B C : Nat) (W W' : World) : Prop := W.heap.size ≤ W'.heap.size ∧ W'.heap[B]? = W.heap[B]? ∧ W'.heap[C]? = W.heap[C]?
theorem kpB_t {B C : Nat} {X Y Z : World} (h : KpB B C X Y) (k : KpB B C Y Z) : KpB B C X Z := ⟨Nat.le_trans h.1 k.1, k.2.1.trans h.2.1, k.2.2.trans h.2.2⟩
theorem kpB_b {B C : Nat} {w : World} (hB : B < w.heap.size) (hC : C < w.heap.size) (W : World) (l : Nat) (o o' : Obj) (hl : w.heap.size ≤ l) (_ : W.heap[l]? = some o) (_ : o.isCells = false) (_ : o.isWalk = false) : KpB B C W (W.putObj l o') :=
  ⟨(grownBy_putObj' W l o').size, World.putObj_heap_other (by omega), World.putObj_heap_other (by omega)⟩
theorem kpB_cell {B C : Nat} {W W' : World} (h : KpB B C W W') {j : Nat} {v : Value} (hc : W.cell? ⟨B, j, none⟩ = some v) : W'.cell? ⟨B, j, none⟩ = some v := (World.cell?_of_block (a := ⟨B, j, none⟩) h.2.1).trans hc
theorem kpC_cell {B C : Nat} {W W' : World} (h : KpB B C W W') {j : Nat} {v : Value} (hc : W.cell? ⟨C, j, none⟩ = some v) : W'.cell? ⟨C, j, none⟩ = some v := (World.cell?_of_block (a := ⟨C, j, none⟩) h.2.2).trans hc
theorem below_grown {W W' : World} (h : Below W.heap.size W W') : W.grownBy W' none := ⟨h.os, h.tape, h.output, h.size, fun k hk _ => h.block k hk⟩

set_option maxHeartbeats 400000 in
theorem arguments_any (b p : Int) (w : World) : Calls Tryd.prog 41 #[.int .i64 b, .int .i64 p] w fun e w' => e = .returned (.func (.func 52) #[] #[.pointer (some ⟨w.heap.size + 1, 0, none⟩), .pointer (some ⟨w.heap.size, 0, none⟩)]) ∧ w' = (w.alloc (.cells #[.int .i64 b] 3)).alloc (.cells #[.int .i64 p] 3) := by
  go_enter Tryd.func41, Tryd.ntmps41
  go_wp2
  go_ret
  exact ⟨rfl, rfl⟩
theorem argL_len (b p : Int) : (argL b p).length = (min p 8).toNat := by simp [argL]
theorem argL_at {b p : Int} {k : Nat} (h : k < (min p 8).toNat) : (argL b p)[k]? = some (wrap64 (b + (k : Int))) := by simp [argL, h]
theorem argL_take {b p : Int} {k : Nat} (h : k < (min p 8).toNat) : (argL b p).take (k + 1) = (argL b p).take k ++ [wrap64 (b + (k : Int))] := by
  rw [List.take_add_one, argL_at h]; rfl

set_option maxRecDepth 100000 in
set_option maxHeartbeats 1000000 in
theorem args1_in (n l Bp Bf : Nat) (hn : 1 ≤ n) (b p : Int) (q : Nat) (hq : (min p 8).toNat = q) (hq8 : q ≤ 8) (J Jx : List Int → World → Prop)
    (hY : ∀ pre x W, J pre W → pre.length < q → YieldAt Fence.wide (n - 1) Tryd.prog l (encN x) W fun e W' =>
      (e = .returned (.bool true) ∧ J (pre ++ [x]) W' ∧ KpB Bp Bf W W') ∨ (e = .returned (.bool false) ∧ Jx (pre ++ [x]) W'))
    (W : World) (hBp : W.cell? ⟨Bp, 0, none⟩ = some (.int .i64 p)) (hBf : W.cell? ⟨Bf, 0, none⟩ = some (.int .i64 b)) (h0 : J [] W) :
    CallsIn Fence.wide n Tryd.prog 52 #[.func (.yield l) #[] #[], .pointer (some ⟨Bp, 0, none⟩), .pointer (some ⟨Bf, 0, none⟩)] W fun e W' => (∃ v, e = .returned v) ∧
      ((∃ ys, ys = argL b p ∧ J ys W') ∨ (∃ pre, pre <+: argL b p ∧ Jx pre W')) := by
  have HQ := Hid.mk' hq
  have HL : Hid ((argL b p).length = q) := (argL_len b p).trans hq
  have hmin : min p 8 = p ∧ p ≤ 8 ∨ min p 8 = 8 ∧ 8 < p := by omega
  refine callsIn_of_wp Tryd.func52 rfl trivial ?_ rfl
  simp only [Tryd.ntmps52, List.size_toArray, List.length_cons, List.length_nil, Nat.reduceAdd, Nat.reduceSub, Array.replicate_succ, Array.replicate_zero, List.push_toArray, List.append_toArray, List.nil_append, List.cons_append]
  gi_wp2_with fail
  gi_loopw [7] (fun t wr => ∃ (k : Nat), t = .int .i64 k ∧ k ≤ q ∧ wr.cell? ⟨Bf, 0, none⟩ = some (.int .i64 b) ∧ J ((argL b p).take k) wr) (fun t _ => q - (intOf t).toNat)
  case atStart => exact ⟨0, rfl, Nat.zero_le _, hBf, h0⟩
  case round =>
    obtain ⟨k, rfl, hk, hB, hJs⟩ := hrel
    by_cases hlt : k < q
    · have hlt' : k < (min p 8).toNat := by rw [HQ.out]; exact hlt
      have hc : (k : Int) < min p 8 := by omega
      have HT := Hid.mk' (argL_take (b := b) hlt')
      obtain ⟨fn, tmps, assign, body, hy, hR⟩ := hY _ (wrap64 (b + (k : Int))) _ hJs (by rw [List.length_take, HL.out]; omega)
      clear hmin hlt'
      gi_wp2_with fail
      refine hR.mono ?_
      rintro e W3 (⟨rfl, hJ3, hk3⟩ | ⟨rfl, hJx3⟩)
      · have hB3 := kpC_cell hk3 hB
        clear hk3 hR hy
        gi_wp2_with fail
        go_roundw
        case rel => exact ⟨k + 1, by go_num, by omega, hB3, by rw [HT.out]; exact hJ3⟩
        case measure => simp [intOf]; omega
      · gi_wp2_with fail
        refine bodyPost_ret (results_none rfl _ _ _) rfl ⟨⟨_, rfl⟩, .inr ⟨_, ?_, hJx3⟩⟩
        rw [← HT.out]; exact List.take_prefix _ _
    · have hc : ¬ ((k : Int) < min p 8) := by have := HQ.out; omega
      have hkq : k = q := by omega
      have HK := Hid.mk' hkq
      clear hkq hmin
      gi_wp2_with fail
      go_end0
      rw [List.take_of_length_le (by rw [HL.out, HK.out]; exact Nat.le_refl _)] at hJs
      exact ⟨⟨_, rfl⟩, .inl hJs⟩
theorem args_stops (n Bp Bf : Nat) (hn : 1 ≤ n) (b p : Int) (w : World) (hBp : w.cell? ⟨Bp, 0, none⟩ = some (.int .i64 p)) (hBf : w.cell? ⟨Bf, 0, none⟩ = some (.int .i64 b)) :
    SeqStopsK Fence.wide n Tryd.prog 52 #[.pointer (some ⟨Bp, 0, none⟩), .pointer (some ⟨Bf, 0, none⟩)] encN (KpB Bp Bf) (fun ys => ys = argL b p) (fun pre => pre <+: argL b p) (argL b p).length w :=
  fun l J Jx W hW _ _ hY h0 => args1_in n l Bp Bf hn b p _ rfl (by omega) J Jx (by rw [← argL_len b p]; exact hY) W ((hW.cell (p := ⟨Bp, 0, none⟩) (lt_of_cell hBp)).trans hBp) ((hW.cell (p := ⟨Bf, 0, none⟩) (lt_of_cell hBf)).trans hBf) h0
end Go.Proofs.YtlkoigdnakmdlaaDoor
