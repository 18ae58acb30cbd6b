/- asm.words: the function value that it hands back tells a line's words, each with its place. -/
import Derived.RangeFuncNested
import Derived.RangeFuncBound
import Derived.RangeFuncCalls
import Derived.RangeFuncLeaves
import Derived.Shelf.Abstract
import Derived.Shelf.RegionOpen
import Derived.WalkKit
import Derived.OwnWalkIn
import Derived.TacticsInMore
import Derived.LoopNIn
import Derived.LoopIn
import Derived.Test.YtboidkmnkicoeaaGreatDoorJb
import Derived.Test.YtboidkmnkicoeaaGreatDoorKb
namespace Go.Proofs.YtboidkmnkicoeaaGreatDoor
open Go.RowKit Go.Shelf Go.Lib
attribute [local go_sem] Oper.semAt_some

abbrev encW (x : Nat × Bt) : Array Value := #[.int .i64 (x.1 : Int), .string (tb x.2)]
/-- What a round that goes on keeps: the box of the line, and whatever walks there are. -/
def KpW (B : Nat) (W W' : World) : Prop := KeepsWalks W W' ∧ W'.heap[B]? = W.heap[B]?
theorem kpW_t {B : Nat} {X Y Z : World} (h : KpW B X Y) (k : KpW B Y Z) : KpW B X Z := ⟨h.1.trans k.1, k.2.trans h.2⟩
theorem kpW_b {B : Nat} {w : World} (hB : B < w.heap.size) (W : World) (l : Nat) (o o' : Obj) (hl : w.heap.size ≤ l) (h : W.heap[l]? = some o) (_ : o.isCells = false) (hw : o.isWalk = false) : KpW B W (W.putObj l o') :=
  ⟨KeepsWalks.putObj _ h hw, World.putObj_heap_other (by omega)⟩
theorem grown_iterAt {W : World} {k : Nat} (s : ByteArray) (p : Nat) : W.grownBy (W.iterAt k s p) (some k) :=
  ⟨rfl, rfl, rfl, by rw [iterAt_size]; exact Nat.le_refl _, fun i _ hi => iterAt_other W k i s p (fun e => hi (by rw [e]))⟩
theorem grown_alloc (W : World) (o : Obj) : W.grownBy (W.alloc o) none := ⟨rfl, rfl, rfl, by simp, fun k hk _ => Below.heap_alloc W o k hk⟩
theorem words_call (s : ByteArray) (w : World) : Calls Tryz.prog 9 #[.string s] w fun e w' => e = .returned (.func (.func 24) #[] #[.pointer (some ⟨w.heap.size, 0, none⟩)]) ∧ w' = w.alloc (.cells #[.string s] 9) := by
  go_enter Tryz.func9, Tryz.ntmps9
  go_wp2
  go_ret
  exact ⟨rfl, rfl⟩
set_option maxRecDepth 100000 in
set_option maxHeartbeats 2000000 in
theorem words1_in (n l B : Nat) (hn : 1 ≤ n) (s : ByteArray) (hs : s.size ≤ 140737488351232) (L : List (Nat × Bt)) (hL : L = plc 0 (spl 32 s.data.toList)) (J Jx : List (Nat × Bt) → World → Prop) (W : World) (hJ : AbidesFrom W.heap.size J)
    (hY : ∀ pre x W, J pre W → pre.length < L.length → YieldAt Fence.wide (n - 1) Tryz.prog l (encW x) W fun e W' =>
      (e = .returned (.bool true) ∧ J (pre ++ [x]) W' ∧ KpW B W W') ∨ (e = .returned (.bool false) ∧ Jx (pre ++ [x]) W'))
    (hB : W.heap[B]? = some (.cells #[.string s] 9)) (h0 : J [] W) :
    CallsIn Fence.wide n Tryz.prog 24 #[.func (.yield l) #[] #[], .pointer (some ⟨B, 0, none⟩)] W fun e W' => (∃ v, e = .returned v) ∧
      ((∃ ys, ys = L ∧ J ys W') ∨ (∃ pre, pre <+: L ∧ Jx pre W')) := by
  have c0 := cell_of_obj hB (j := 0) (v := .string s) rfl
  have hlt : B < W.heap.size := (Array.getElem?_eq_some_iff.1 hB).1
  have b1 : (W.iter s 0).heap[B]? = some (.cells #[.string s] 9) := (Below.heap_alloc W _ B hlt).trans hB
  have j1 : J [] (W.iter s 0) := hJ [] W _ none h0 (grown_alloc W _) (by simp)
  have i1 := World.iter_heap W s 0
  have HL := Hid.mk' hL
  have HJ := Hid.mk' hJ
  have HY := Hid.mk' hY
  clear hL hJ hY h0 hB
  refine callsIn_of_wp Tryz.func24 rfl trivial ?_ rfl
  simp only [Tryz.ntmps24, List.size_toArray, List.length_cons, List.length_nil, Nat.reduceAdd, Nat.reduceSub, Array.replicate_succ, Array.replicate_zero, List.push_toArray, List.append_toArray, List.nil_append, List.cons_append]
  gi_wp2_with fail
  generalize hW1 : W.iter s 0 = W1 at *
  clear hW1 c0
  gi_loopw [3] (fun t3 wr => ∃ (i p : Nat) (pre : List (Nat × Bt)), t3 = .int .i64 i ∧ i ≤ p ∧ p ≤ s.size ∧ wr.heap[W.heap.size]? = some (.stringIter s p) ∧ wr.heap[B]? = some (.cells #[.string s] 9) ∧ noB s.data.toList i p ∧ L = pre ++ plc i (spl 32 (s.data.toList.drop i)) ∧ J pre wr) (fun _ wr => s.size - wr.iterPos W.heap.size)
  case atStart => exact ⟨0, 0, [], rfl, Nat.le_refl _, Nat.zero_le _, i1, b1, noB_self _ _, by rw [HL.out]; rfl, j1⟩
  case round =>
    obtain ⟨i, p, pre, rfl, hip, hps, hit, hbx, hno, hLp, hJs⟩ := hrel
    have c1 := cell_of_obj hbx (j := 0) (v := .string s) rfl
    have HM := Hid.mk' (iterPos_of hit)
    have HNO := Hid.mk' hno
    have HLP := Hid.mk' hLp
    clear hno hLp i1 b1 j1
    by_cases hp : p < s.size
    · have hnx0 : ∀ ty, (Instr.next (.pointer (some ⟨W.heap.size, 0, none⟩)) true ty).run Tryz.prog wr = _ := fun ty => run_next_any_at wr W.heap.size s p ty hit hp
      have hJt := fun q => HJ.out pre wr (wr.iterAt W.heap.size s q) (some W.heap.size) hJs (grown_iterAt s q) (fun r e => by cases e; exact ⟨Nat.le_refl _, _, hit, rfl⟩)
      have hbt : ∀ q, (wr.iterAt W.heap.size s q).heap[B]? = some (.cells #[.string s] 9) := fun q => (iterAt_other _ _ _ _ _ (by omega)).trans hbx
      have hitt := fun q => iterAt_heap wr W.heap.size s p q hit
      by_cases hc : (Utf8.decode s p).1 = 32
      · obtain ⟨h32, hw1⟩ := blank_at hp hc
        rw [hc, hw1] at hnx0
        have HWN := Hid.mk' (words_next HNO.out hip h32)
        have hJ1 := hJt (p + 1)
        have hb1 := hbt (p + 1)
        have hi1 := hitt (p + 1)
        have c2 := cell_of_obj hb1 (j := 0) (v := .string s) rfl
        have hnx : ∀ ty, (Instr.next (.pointer (some ⟨W.heap.size, 0, none⟩)) true ty).run Tryz.prog wr = .ok (.tuple #[.bool true, .int .i64 p, .int .i32 32]) (wr.iterAt W.heap.size s (p + 1)) := hnx0
        generalize wr.iterAt W.heap.size s (p + 1) = W2 at *
        have HPX : Hid (pre ++ [(i, cutB s.data.toList i p)] <+: L) := ⟨plc (p + 1) (spl 32 (s.data.toList.drop (p + 1))), by rw [HLP.out, HWN.out]; simp⟩
        obtain ⟨fn, tmps, assign, body, hy, hR⟩ := HY.out pre (i, cutB s.data.toList i p) W2 hJ1 (by rw [HLP.out, HWN.out]; simp)
        simp only [encW] at hy
        rw [← ext_tb] at hy
        have k1 : (0 : Int) ≤ (i : Int) := by omega
        have k2 : (i : Int) ≤ (p : Int) := by omega
        have k3 : (p : Int) ≤ (s.size : Int) := by omega
        clear hnx0 hbt hitt hJt hbx hit hJs h32 hw1 hc
        gi_wp2_with fail
        refine hR.mono ?_
        rintro e W3 (⟨rfl, hJ3, hk3⟩ | ⟨rfl, hJx3⟩)
        · have hb3 : W3.heap[B]? = _ := hk3.2.trans hb1
          have hi3 : W3.heap[W.heap.size]? = _ := hk3.1.same _ _ hi1 rfl
          clear hk3 hR hy
          gi_wp2_with fail
          go_roundw
          case rel => exact ⟨p + 1, p + 1, _, by go_num, Nat.le_refl _, by omega, hi3, hb3, noB_self _ _, by rw [HLP.out, HWN.out]; simp, hJ3⟩
          case measure => rw [HM.out, iterPos_of hi3]; omega
        · gi_wp2_with fail
          exact bodyPost_ret (results_none rfl _ _ _) rfl ⟨⟨_, rfl⟩, .inr ⟨_, HPX.out, hJx3⟩⟩
      · obtain ⟨n1, n2, n3⟩ := noB_next HNO.out hp hc
        have hJ1 := hJt (p + (Utf8.decode s p).2)
        have hb1 := hbt (p + (Utf8.decode s p).2)
        have hi1 := hitt (p + (Utf8.decode s p).2)
        have hq : (((Utf8.decode s p).1 : Int) != 32) = true := bne_of (by omega)
        clear hbt hitt hJt hbx hit hJs hc
        generalize (Utf8.decode s p).2 = q at *
        generalize wr.iterAt W.heap.size s (p + q) = W2 at *
        generalize (Utf8.decode s p).1 = c at *
        gi_wp2_with fail
        go_roundw
        case rel => exact ⟨i, p + q, pre, rfl, by omega, n2, hi1, hb1, n1, HLP.out, hJ1⟩
        case measure => rw [HM.out, iterPos_of hi1]; omega
    · have hpe : p = s.size := by omega
      have hnx : ∀ ty, (Instr.next (.pointer (some ⟨W.heap.size, 0, none⟩)) true ty).run Tryz.prog wr = _ := fun ty => run_next_end_at wr W.heap.size s p ty hit hp
      have HWL := Hid.mk' (words_last (l := s.data.toList) (i := i) (by have := HNO.out; rw [hpe] at this; rw [Array.length_toList]; exact this))
      have HLL : Hid (pre ++ [(i, s.data.toList.drop i)] = L) := (by rw [HLP.out, HWL.out] : _ = _)
      obtain ⟨fn, tmps, assign, body, hy, hR⟩ := HY.out pre (i, s.data.toList.drop i) wr hJs (by rw [← HLL.out]; simp)
      simp only [encW] at hy
      have e1 : s.data.toList.drop i = cutB s.data.toList i s.size := by unfold cutB; rw [List.take_of_length_le (by rw [List.length_drop, Array.length_toList]; exact Nat.le_refl _)]
      rw [e1, ← ext_tb] at hy
      have k1 : (0 : Int) ≤ (i : Int) := by omega
      have k2 : (i : Int) ≤ (s.size : Int) := by omega
      clear hpe hit hbx
      gi_wp2_with fail
      refine hR.mono ?_
      rintro e W3 (⟨rfl, hJ3, hk3⟩ | ⟨rfl, hJx3⟩)
      · gi_wp2_with fail
        go_end0
        rw [HLL.out] at hJ3
        exact ⟨⟨_, rfl⟩, .inl ⟨_, rfl, hJ3⟩⟩
      · gi_wp2_with fail
        go_end0
        rw [HLL.out] at hJx3
        exact ⟨⟨_, rfl⟩, .inr ⟨_, List.prefix_refl _, hJx3⟩⟩
theorem words_stops (n B : Nat) (hn : 1 ≤ n) (s : ByteArray) (hs : s.size ≤ 140737488351232) (w : World) (hB : w.heap[B]? = some (.cells #[.string s] 9)) :
    SeqStopsK Fence.wide n Tryz.prog 24 #[.pointer (some ⟨B, 0, none⟩)] encW (KpW B) (fun ys => ys = plc 0 (spl 32 s.data.toList)) (fun pre => pre <+: plc 0 (spl 32 s.data.toList)) (plc 0 (spl 32 s.data.toList)).length w :=
  fun l J Jx W hW hJ _ hY h0 => words1_in n l B hn s hs _ rfl J Jx W hJ hY ((hW.block _ (Array.getElem?_eq_some_iff.1 hB).1).trans hB) h0
end Go.Proofs.YtboidkmnkicoeaaGreatDoor

/- strings.Cut at the end of a line. -/
namespace Go.Proofs.YtboidkmnkicoeaaGreatDoor
open Go.RowKit Go.Sort

theorem index_no {c : UInt8} : ∀ {l : Bt}, c ∉ l → Lib.indexByte l c = -1
  | [], _ => rfl
  | x :: r, h => by
    have h1 : (x == c) = false := beq_eq_false_iff_ne.2 (fun e => h (by simp [e]))
    rw [Lib.indexByte, h1, index_no (fun e => h (by simp [e]))]; rfl
theorem index_at {c : UInt8} (r : Bt) : ∀ {l : Bt}, c ∉ l → Lib.indexByte (l ++ c :: r) c = l.length
  | [], _ => by simp [Lib.indexByte]
  | x :: l, h => by
    have h1 : (x == c) = false := beq_eq_false_iff_ne.2 (fun e => h (by simp [e]))
    have ih := index_at r (l := l) (fun (e : c ∈ l) => h (List.mem_cons_of_mem _ e))
    rw [List.cons_append, Lib.indexByte, h1, ih]
    have : ((l.length : Int) == -1) = false := beq_no (by omega)
    rw [this]
    simp
set_option maxHeartbeats 1000000 in
theorem cut_no (l : Bt) (h : (10 : UInt8) ∉ l) (w : World) : Calls Tryz.prog 8 #[.string (tb l), .string ⟨#[10]⟩] w fun e w' => e = .returned (.tuple #[.string (tb l), .string ⟨#[]⟩, .bool false]) ∧ Below w.heap.size w w' := by
  have HI := Hid.mk' (Tryz.stringslite_Index_one (tb l) 10)
  rw [tb_list, index_no h] at HI
  generalize tb l = s at *
  have HC : Hid (∀ w, Calls Tryz.prog 23 #[.string s, .string ⟨#[10]⟩] w fun e w' => e = .returned (.tuple #[.string s, .string ⟨#[]⟩, .bool false]) ∧ w' = w) := fun w => by
    go_enter Tryz.func23, Tryz.ntmps23
    go_wp2_with (go_at_call 37; refine (HI.out _).mono ?_; rintro e w1 ⟨rfl, rfl⟩)
    go_ret3
    exact ⟨rfl, rfl⟩
  go_enter Tryz.func8, Tryz.ntmps8
  go_wp2_with (go_at_call 23; refine (HC.out _).mono ?_; rintro e w1 ⟨rfl, rfl⟩)
  go_ret3
  exact ⟨rfl, Below.refl _ _⟩
set_option maxHeartbeats 1000000 in
theorem cut_at (a r : Bt) (h : (10 : UInt8) ∉ a) (hl : (a ++ 10 :: r).length ≤ 140737488351232) (w : World) : Calls Tryz.prog 8 #[.string (tb (a ++ 10 :: r)), .string ⟨#[10]⟩] w fun e w' => e = .returned (.tuple #[.string (tb a), .string (tb r), .bool true]) ∧ Below w.heap.size w w' := by
  have HI := Hid.mk' (Tryz.stringslite_Index_one (tb (a ++ 10 :: r)) 10)
  rw [tb_list, index_at r h] at HI
  have e1 : (tb (a ++ 10 :: r)).extract 0 a.length = tb a := by
    rw [ext_tb]
    unfold cutB
    rw [tb_list]
    simp
  have e2 : (tb (a ++ 10 :: r)).extract (a.length + 1) (tb (a ++ 10 :: r)).size = tb r := by
    rw [ext_tb]
    unfold cutB
    rw [tb_list, tb_size, List.drop_append, List.drop_eq_nil_of_le (by omega), show a.length + 1 - a.length = 1 by omega]
    simp only [List.nil_append, List.drop_succ_cons, List.drop_zero, List.length_append, List.length_cons]
    rw [List.take_of_length_le (by omega)]
  have hs : (tb (a ++ 10 :: r)).size = a.length + 1 + r.length := by rw [tb_size]; simp; omega
  have hl' : a.length + 1 + r.length ≤ 140737488351232 := by rw [tb_size] at hs; omega
  generalize tb (a ++ 10 :: r) = s at *
  have k1 : (0 : Int) ≤ (a.length : Int) := by omega
  have k2 : (a.length : Int) ≤ (s.size : Int) := by omega
  have k3 : (a.length : Int) + 1 ≤ (s.size : Int) := by omega
  have k4 : (0 : Int) ≤ (a.length : Int) + 1 := by omega
  have w1 : IntKind.i64.wrap ((a.length : Int) + 1) = (a.length : Int) + 1 := by rw [IntKind.wrap_i64]; omega
  have k5 : decide ((0 : Int) ≤ (a.length : Int)) = true := decide_eq_true (by omega)
  have HE1 := Hid.mk' e1
  have HE2 := Hid.mk' e2
  clear e1 e2 hl hs
  have HC : Hid (∀ w, Calls Tryz.prog 23 #[.string s, .string ⟨#[10]⟩] w fun e w' => e = .returned (.tuple #[.string (tb a), .string (tb r), .bool true]) ∧ Below w.heap.size w w') := fun w => by
    rw [← HE1.out, ← HE2.out]
    go_enter Tryz.func23, Tryz.ntmps23
    go_wp2_with (go_at_call 37; refine (HI.out _).mono ?_; rintro e w1 ⟨rfl, rfl⟩)
    refine wp_region_quiet_below (by kernel_rfl) (by kernel_rfl) ?_
    repeat (go_big_quiet_step (fail))
    refine wpQuiet_nil ?_
    rintro _ ⟨⟨dq, osq⟩, rfl⟩
    go_wp2_with fail
    go_ret3
    exact ⟨rfl, below_regrown _ dq osq⟩
  go_enter Tryz.func8, Tryz.ntmps8
  go_wp2_with (go_at_call 23; refine (HC.out _).mono ?_; rintro e w1 ⟨rfl, hb1⟩)
  go_ret3
  exact ⟨rfl, hb1⟩
end Go.Proofs.YtboidkmnkicoeaaGreatDoor
