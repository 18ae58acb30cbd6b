/- scan.steps and the function that it hands back: for every loop body that keeps its word, the items of the source in their order. -/
import Derived.RangeFuncNested
import Derived.RangeFuncBound
import Derived.RangeFuncCalls
import Derived.RangeFuncLeaves
import Derived.Shelf.Abstract
import Derived.Shelf.RegionOpen
import Derived.WalkKit
import Derived.OwnWalkIn
import Derived.TacticsInMore
import Derived.LoopNIn
import Derived.LoopIn
import Derived.Test.YtdlddloggjckmaaDoorE
import Derived.Test.YtdlddloggjckmaaDoorM4
namespace Go.Proofs.YtdlddloggjckmaaDoor
open Go.RowKit Go.Shelf
attribute [local go_sem] Oper.semAt_some

/-- What a round that goes on keeps: blocks of one token, the source's box, the variable. -/
def KpT (Bs : Nat) (W W' : World) : Prop :=
  W.heap.size ≤ W'.heap.size ∧ (∀ (b : Nat) (c : Array Value) (f : Nat × Nat), W.heap[b]? = some (Obj.cells c 33 f) → c.size = 4 → W'.heap[b]? = W.heap[b]?) ∧ W'.heap[Bs]? = W.heap[Bs]? ∧ W'.heap[1]? = W.heap[1]?

abbrev encI (x : It) : Array Value := #[tokV x.kind x.at_ x.text x.n, .int .i64 x.err]

theorem below_grown {W W' : World} (h : Below W.heap.size W W') : W.grownBy W' none := ⟨h.os, h.tape, h.output, h.size, fun k hk _ => h.block k hk⟩
theorem ext_from (s : ByteArray) (k : Nat) : (s.extract k s.size).data.toList = s.data.toList.drop k := by
  have h1 : (s.extract k s.size).data.toList = (s.data.toList.drop k).take (s.size - k) := by simp
  rw [h1, List.take_of_length_le (by rw [size_drop]; exact Nat.le_refl _)]
theorem ext_from_size (s : ByteArray) (k : Nat) : (s.extract k s.size).size = s.size - k := by simp

theorem take_at (s : ByteArray) (k : Nat) (w : World) (hs : s.size ≤ 281474976710656) (hk : k < s.size) (hv : VarOk w) :
    Calls Tryd.prog 34 #[.string (s.extract k s.size)] w fun e w' => e = .returned (.tuple #[tokV (itemAt s k).kind 0 (itemAt s k).text (itemAt s k).n, .int .i64 (itemAt s k).err]) ∧ Below w.heap.size w w' := by
  have h := take_any (s.extract k s.size) w (by rw [ext_from_size]; omega) (by rw [ext_from_size]; omega) hv
  rw [ext_from] at h
  exact h

theorem item_text_size (s : ByteArray) (k : Nat) : (itemAt s k).text.size = tkL (takeR (s.data.toList.drop k)) := by
  show ((s.extract k s.size).extract 0 _).size = _
  have := tkL_le (s.data.toList.drop k)
  rw [size_drop] at this
  rw [ext_size _ _ (by rw [ext_from_size]; omega)]

set_option maxRecDepth 100000 in
set_option maxHeartbeats 1000000 in
theorem steps1_in (n l Bs : Nat) (hn : 1 ≤ n) (s : ByteArray) (hs : s.size ≤ 281474976710656) (J Jx : List It → World → Prop) (B0 : Nat) (hJ : AbidesFrom B0 J)
    (hY : ∀ pre x W, J pre W → pre.length < (items s).length → YieldAt Fence.wide (n - 1) Tryd.prog l (encI x) W fun e W' =>
      (e = .returned (.bool true) ∧ J (pre ++ [x]) W' ∧ KpT Bs W W') ∨ (e = .returned (.bool false) ∧ Jx (pre ++ [x]) W'))
    (W : World) (hBs : W.cell? ⟨Bs, 0, none⟩ = some (.string s)) (hv : VarOk W) (h0 : J [] W) :
    CallsIn Fence.wide n Tryd.prog 32 #[.func (.yield l) #[] #[], .pointer (some ⟨Bs, 0, none⟩)] W fun e W' => (∃ v, e = .returned v) ∧
      ((∃ ys, ys = items s ∧ J ys W') ∨ (∃ pre, pre <+: items s ∧ Jx pre W')) := by
  have hm : s.size ≤ maxLen := by unfold maxLen; omega
  have hm' : s.size ≤ 9223372036854775807 := by omega
  have hp0 := passEnd_le false s.data.toList 0 (Nat.zero_le _)
  rw [ba_len] at hp0
  refine callsIn_of_wp Tryd.func32 rfl trivial ?_ rfl
  simp only [Tryd.ntmps32, List.size_toArray, List.length_cons, List.length_nil, Nat.reduceAdd, Nat.reduceSub, Array.replicate_succ, Array.replicate_zero, List.push_toArray, List.append_toArray, List.nil_append, List.cons_append]
  gi_wp2_with (refine ⟨trivial, ?_⟩; gi_at_call 33; refine (callsIn_wide.2 (pass_any _ _ _ hm (by omega) (by omega))).mono ?_; rintro e w' ⟨rfl, rfl⟩)
  gi_loopw [3] (fun p wr => ∃ (pre : List It) (k f : Nat), p = .int .i64 k ∧ k ≤ s.size ∧ s.size < k + f ∧ Hid (items s = pre ++ itemsFrom s f k) ∧ wr.cell? ⟨Bs, 0, none⟩ = some (.string s) ∧ VarOk wr ∧ J pre wr)
    (fun p _ => s.size - (intOf p).toNat)
  case atStart => exact ⟨[], _, s.size + 1, rfl, hp0, by omega, rfl, hBs, hv, h0⟩
  case round =>
    obtain ⟨pre, k, f, rfl, hk, hf, HI, hB, hV, hJs⟩ := hrel
    by_cases hlt : k < s.size
    · have hpl : pre.length < (items s).length := by
        obtain ⟨f', rfl⟩ : ∃ f', f = f' + 1 := ⟨f - 1, by omega⟩
        rw [HI.out, itemsFrom_in s f' k hlt]; simp
      obtain ⟨kd, tx, nn, er, hx⟩ : ∃ kd tx nn er, itemAt s k = ⟨kd, k, tx, nn, er⟩ := ⟨_, _, _, _, rfl⟩
      have h34 : ∀ w, VarOk w → Calls Tryd.prog 34 #[.string (s.extract k s.size)] w fun e w' => e = .returned (.tuple #[tokV kd 0 tx nn, .int .i64 er]) ∧ Below w.heap.size w w' := fun w hv => by
        have := take_at s k w hs hlt hv
        rw [hx] at this; exact this
      have hts := item_text_size s k
      rw [hx] at hts
      have hnl := nextAt_le s k hlt
      have HX : Hid (itemAt s k = ⟨kd, k, tx, nn, er⟩) := hx
      have HT : Hid (tx.size = tkL (takeR (s.data.toList.drop k))) := hts
      rw [← hts] at hnl
      obtain ⟨hn1, hn2⟩ := hnl
      clear hx hts
      gi_wp2_with fail
      refine ⟨trivial, ?_⟩
      refine (callsIn_wide.2 (h34 _ hV)).mono ?_
      rintro e w1 ⟨rfl, hb1⟩
      have hJ2 := hJ pre wr (w1.alloc (.cells #[.int .i64 kd, .int .i64 k, .string tx, .int .i64 nn] 33)) none hJs (below_grown (hb1.alloc hb1.size _)) (by simp)
      obtain ⟨fn, tmps, assign, body, hy, hR⟩ := hY pre ⟨kd, k, tx, nn, er⟩ _ hJ2 hpl
      gi_wp2_with fail
      refine hR.mono ?_
      rintro e W3 (⟨rfl, hJ3, hk3⟩ | ⟨rfl, hJx3⟩)
      · obtain ⟨hks, hk4, hkB, hk1⟩ := hk3
        have hBlt : Bs < wr.heap.size := Lib.lt_of_cell hB
        have hV1 := hV.below hb1
        have hnew : (w1.alloc (.cells #[.int .i64 kd, .int .i64 k, .string tx, .int .i64 nn] 33)).heap[w1.heap.size]? = some (.cells #[.int .i64 kd, .int .i64 k, .string tx, .int .i64 nn] 33 (0, 0)) := World.alloc_heap_new w1 _
        have hT3 := (hk4 w1.heap.size _ _ hnew rfl).trans hnew
        have hsz1 := hb1.size
        have hB1 : (w1.alloc (.cells #[.int .i64 kd, .int .i64 k, .string tx, .int .i64 nn] 33)).cell? ⟨Bs, 0, none⟩ = some (.string s) :=
          (((hb1.alloc hsz1 _).cell (p := ⟨Bs, 0, none⟩) hBlt)).trans hB
        have hB3 : W3.cell? ⟨Bs, 0, none⟩ = some (.string s) := (World.cell?_of_block (a := ⟨Bs, 0, none⟩) hkB).trans hB1
        have hV3 : VarOk W3 := by
          obtain ⟨te, pe, hv⟩ := hV1.alloc (.cells #[.int .i64 kd, .int .i64 k, .string tx, .int .i64 nn] 33)
          exact ⟨te, pe, (World.cell?_of_block (a := ⟨1, 0, none⟩) hk1).trans hv⟩
        have ht3 : W3.cell? ⟨w1.heap.size, 2, none⟩ = some (.string tx) := by simp [World.cell?, hT3]
        clear hk4 hkB hk1 hnew hT3 hB1 hR hy hJ2
        by_cases her : er = 0
        · subst her
          have hnx : passEnd false s.data.toList (k + tx.size) = nextAt s k := by unfold nextAt; rw [HT.out]
          have hgt := nextAt_gt s k hlt (by rw [HX.out])
          have HN : Hid (passEnd false s.data.toList (k + tx.size) = nextAt s k) := hnx
          clear hnx
          have h33 : ∀ w, Calls Tryd.prog 33 #[.string s, .int .i64 ((k : Int) + (tx.size : Int))] w fun e w' => e = .returned (.int .i64 (nextAt s k : Nat)) ∧ w' = w := fun w => by
            have := pass_any s ((k : Int) + (tx.size : Int)) w hm (by omega) (by omega)
            rw [show ((k : Int) + (tx.size : Int)).toNat = k + tx.size from by omega, HN.out] at this
            exact this
          gi_wp2_with fail
          refine ⟨trivial, ?_⟩
          refine (callsIn_wide.2 (h33 _)).mono ?_
          rintro e w4 ⟨rfl, rfl⟩
          gi_wp2_with fail
          go_roundw
          case rel =>
            obtain ⟨f', rfl⟩ : ∃ f', f = f' + 1 := ⟨f - 1, by omega⟩
            refine ⟨pre ++ [⟨kd, k, tx, nn, 0⟩], nextAt s k, f', rfl, hn1, by omega, ?_, hB3, hV3, hJ3⟩
            show items s = _
            rw [HI.out, itemsFrom_in s f' k hlt, HX.out, if_pos rfl]; simp
          case measure => simp [intOf]; omega
        · have her1 : (er == 0) = false := by simpa using her
          have her2 : (er != 0) = true := by simpa using her
          gi_wp2_with fail
          refine bodyPost_ret (results_none rfl _ _ _) rfl ⟨⟨_, rfl⟩, .inl ⟨_, ?_, hJ3⟩⟩
          obtain ⟨f', rfl⟩ : ∃ f', f = f' + 1 := ⟨f - 1, by omega⟩
          rw [HI.out, itemsFrom_in s f' k hlt, HX.out, if_neg her]
      · gi_wp2_with fail
        refine bodyPost_ret (results_none rfl _ _ _) rfl ⟨⟨_, rfl⟩, .inr ⟨_, ?_, hJx3⟩⟩
        obtain ⟨f', rfl⟩ : ∃ f', f = f' + 1 := ⟨f - 1, by omega⟩
        rw [HI.out, itemsFrom_in s f' k hlt, HX.out]
        exact ⟨(if er = 0 then itemsFrom s f' (nextAt s k) else []), by simp⟩
    · gi_wp2
      go_end0
      exact ⟨⟨_, rfl⟩, .inl ⟨pre, by rw [HI.out, itemsFrom_end s f k hlt, List.append_nil], hJs⟩⟩
end Go.Proofs.YtdlddloggjckmaaDoor
