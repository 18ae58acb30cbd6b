/- asm.instruction: an instruction of its numbers. -/
import Derived.Test.YtboidkmnkicoeaaGreatDoorJj
import Derived.Test.YtboidkmnkicoeaaGreatDoorKd
namespace Go.Proofs.YtboidkmnkicoeaaGreatDoor
open Go.RowKit Go.Sort Go.Lib

theorem setL_snoc : ∀ (L : List Nat) (t : List Int) (k : Nat) (v : Int) (x : Is), L.length = t.length → setL (L ++ [k]) (t ++ [v]) x = setF (setL L t x) v k
  | [], [], k, v, x, _ => rfl
  | [], _ :: _, _, _, _, h => by simp at h
  | _ :: _, [], _, _, _, h => by simp at h
  | a :: L, b :: t, k, v, x, h => by
    show setL (L ++ [k]) (t ++ [v]) (setF x b a) = setF (setL L t (setF x b a)) v k
    exact setL_snoc L t k v _ (by simpa using h)
def insP (op : Int) (ns : List Int) (j : Nat) : Is := setL ((hasL op).take j) (ns.take j) ⟨op, 0, 0, 0, 0⟩
theorem insP_next {op : Int} {ns : List Int} {j : Nat} (h : j < (hasL op).length) (h' : j < ns.length) : insP op ns (j + 1) = setF (insP op ns j) ns[j] (hasL op)[j] := by
  unfold insP
  rw [List.take_add_one, List.take_add_one, List.getElem?_eq_getElem h, List.getElem?_eq_getElem h']
  exact setL_snoc _ _ _ _ _ (by simp; omega)
theorem insP_all {op : Int} {ns : List Int} (h : (hasL op).length = ns.length) : insP op ns (hasL op).length = insF op ns := by
  unfold insP insF
  rw [List.take_length, h, List.take_length]
/-- What the loop over the letters holds. -/
structure PI (w : World) (s : ByteArray) (j : Nat) (x : Is) (W : World) : Prop where
  rs : W.heap[w.heap.size]? = some (.cells #[.int .i64 0, .int .i64 0, .int .i64 0, .int .i64 0, .int .i64 0] 36)
  bx : W.heap[w.heap.size + 1]? = some (.cells (cI x) 36)
  it : W.heap[w.heap.size + 1 + 1]? = some (.stringIter s j)
  hb : Below w.heap.size w W
theorem PI.turn {w : World} {s : ByteArray} {j : Nat} {x : Is} {W : World} (h : PI w s j x W) : PI w s (j + 1) x (W.iterAt (w.heap.size + 1 + 1) s (j + 1)) :=
  ⟨(iterAt_other _ _ _ _ _ (by omega)).trans h.rs, (iterAt_other _ _ _ _ _ (by omega)).trans h.bx, iterAt_heap _ _ _ _ _ h.it, below_iterAt h.hb (by omega) _ _⟩
theorem PI.set0 {w : World} {s : ByteArray} {j : Nat} {x : Is} {W : World} (h : PI w s j x W) (v : Int) : PI w s j { x with a := v } (W.setCell ⟨w.heap.size + 1, 1, none⟩ (.int .i64 v)) :=
  ⟨(Below.heap_setCell _ _ _ _ (by simp only; omega)).trans h.rs, by have := heap_setCell_same W (w.heap.size + 1) 1 _ _ (.int .i64 v) h.bx; simpa [cI] using this, (Below.heap_setCell _ _ _ _ (by simp only; omega)).trans h.it, h.hb.setCell (by simp only; omega) _⟩
theorem PI.set1 {w : World} {s : ByteArray} {j : Nat} {x : Is} {W : World} (h : PI w s j x W) (v : Int) : PI w s j { x with b := v } (W.setCell ⟨w.heap.size + 1, 2, none⟩ (.int .i64 v)) :=
  ⟨(Below.heap_setCell _ _ _ _ (by simp only; omega)).trans h.rs, by have := heap_setCell_same W (w.heap.size + 1) 2 _ _ (.int .i64 v) h.bx; simpa [cI] using this, (Below.heap_setCell _ _ _ _ (by simp only; omega)).trans h.it, h.hb.setCell (by simp only; omega) _⟩
theorem PI.set2 {w : World} {s : ByteArray} {j : Nat} {x : Is} {W : World} (h : PI w s j x W) (v : Int) : PI w s j { x with c := v } (W.setCell ⟨w.heap.size + 1, 3, none⟩ (.int .i64 v)) :=
  ⟨(Below.heap_setCell _ _ _ _ (by simp only; omega)).trans h.rs, by have := heap_setCell_same W (w.heap.size + 1) 3 _ _ (.int .i64 v) h.bx; simpa [cI] using this, (Below.heap_setCell _ _ _ _ (by simp only; omega)).trans h.it, h.hb.setCell (by simp only; omega) _⟩
theorem PI.set3 {w : World} {s : ByteArray} {j : Nat} {x : Is} {W : World} (h : PI w s j x W) (v : Int) : PI w s j { x with n := v } (W.setCell ⟨w.heap.size + 1, 4, none⟩ (.int .i64 v)) :=
  ⟨(Below.heap_setCell _ _ _ _ (by simp only; omega)).trans h.rs, by have := heap_setCell_same W (w.heap.size + 1) 4 _ _ (.int .i64 v) h.bx; simpa [cI] using this, (Below.heap_setCell _ _ _ _ (by simp only; omega)).trans h.it, h.hb.setCell (by simp only; omega) _⟩
set_option maxRecDepth 100000 in
set_option maxHeartbeats 4000000 in
theorem instruction_any (k : Nat) (hk : k < 20) (a : Option Addr) (c : Nat) (ns : List Int) (w : World) (h : Env w) (hr : Thr w a ns) (hn : (hasL k).length = ns.length) :
    Calls Tryz.prog 43 #[.int .i64 (k : Int), .slice a ns.length c] w fun e w' => e = .returned (insF k ns).val ∧ Below w.heap.size w w' := by
  have hb2 := Below.one (Below.one (Below.refl _ w) (.cells #[.int .i64 0, .int .i64 0, .int .i64 0, .int .i64 0, .int .i64 0] 36)) (.cells #[.int .i64 (k : Int), .int .i64 0, .int .i64 0, .int .i64 0, .int .i64 0] 36)
  have cf := cell_kept_below (h.fl k hk) hb2
  have hli : (k : Int) < 20 := by omega
  have HS := Hid.mk' (fldB_size k)
  have HA := Hid.mk' (fun (j : Nat) (h : j < (hasL k).length) (h' : j < (fldB k).size) => fldB_at k h h')
  have hlen : (hasL k).length ≤ 4 := by
    unfold hasL
    split <;> split <;> split <;> split <;> simp
  have HR := Hid.mk' hr
  have HNX := Hid.mk' (fun (j : Nat) (h : j < (hasL k).length) (h' : j < ns.length) => insP_next (op := k) h h')
  have HAL := Hid.mk' (insP_all hn)
  have HN := Hid.mk' hn
  have P0 : PI w (fldB k) 0 (insP k ns 0) (((w.alloc (.cells #[.int .i64 0, .int .i64 0, .int .i64 0, .int .i64 0, .int .i64 0] 36)).alloc (.cells #[.int .i64 (k : Int), .int .i64 0, .int .i64 0, .int .i64 0, .int .i64 0] 36)).iter (fldB k) 0) := by
    refine ⟨?_, ?_, ?_, Below.one hb2 _⟩
    · exact (Below.heap_alloc _ _ _ (by simp; omega)).trans ((Below.heap_alloc _ _ _ (by simp)).trans (heap_alloc_new _ _))
    · refine (Below.heap_alloc _ _ _ (by simp)).trans ?_
      have := heap_alloc_new (w.alloc (.cells #[.int .i64 0, .int .i64 0, .int .i64 0, .int .i64 0, .int .i64 0] 36)) (.cells #[.int .i64 (k : Int), .int .i64 0, .int .i64 0, .int .i64 0, .int .i64 0] 36)
      rw [World.size_alloc] at this
      exact this
    · have := World.iter_heap ((w.alloc (.cells #[.int .i64 0, .int .i64 0, .int .i64 0, .int .i64 0, .int .i64 0] 36)).alloc (.cells #[.int .i64 (k : Int), .int .i64 0, .int .i64 0, .int .i64 0, .int .i64 0] 36)) (fldB k) 0
      rwa [World.size_alloc, World.size_alloc] at this
  have HP0 := Hid.mk' P0
  clear h hr hb2 hk P0 hn
  generalize insF k ns = X at *
  generalize hasL k = L at *
  generalize fldB k = s at *
  generalize insP k ns = IP at *
  go_enter Tryz.func43, Tryz.ntmps43
  go_wp2_with fail
  generalize hG : ((w.alloc (.cells #[.int .i64 0, .int .i64 0, .int .i64 0, .int .i64 0, .int .i64 0] 36)).alloc (.cells #[.int .i64 (k : Int), .int .i64 0, .int .i64 0, .int .i64 0, .int .i64 0] 36)).iter s 0 = W0 at *
  clear hG
  go_loopw [] (fun wr => ∃ (j : Nat), j ≤ L.length ∧ PI w s j (IP j) wr) (fun wr => L.length - wr.iterPos (w.heap.size + 1 + 1))
  case atStart => exact ⟨0, Nat.zero_le _, HP0.out⟩
  case round =>
    obtain ⟨j, hj, hpi⟩ := hrel
    have HMM := Hid.mk' (iterPos_of hpi.it)
    by_cases hlt : j < L.length
    · have hls : j < s.size := by rw [HS.out]; exact hlt
      have hln : j < ns.length := by rw [← HN.out]; exact hlt
      obtain ⟨nb, no, hna, hc⟩ := thr_at (HR.out.stay hpi.turn.hb) hln
      have HT := Hid.mk' (HNX.out j hlt hln)
      have hat := HA.out j hlt hls
      have hnx0 : s[j].toNat < 128 → ∀ ty, (Instr.next (.pointer (some ⟨w.heap.size + 1 + 1, 0, none⟩)) true ty).run Tryz.prog wr = _ := fun hh ty => run_next_ascii_at wr (w.heap.size + 1 + 1) s j ty hpi.it hls hh
      rw [hat] at hnx0
      have hp1 := hpi.turn
      generalize wr.iterAt (w.heap.size + 1 + 1) s (j + 1) = W1 at *
      have hli2 : (j : Int) < (ns.length : Int) := by omega
      rw [hna]
      have HNA := Hid.mk' hna
      have HP1 := Hid.mk' hp1
      generalize ns[j] = v at *
      generalize IP j = x at *
      clear hat hls hpi hna
      have hbk := hp1.bx
      have fz := fun i => Lib.frozen_of_heap hbk i
      clear hp1
      rcases hq : L[j] with _ | _ | _ | q
      · rw [hq] at hnx0 HT
        have hnx : ∀ ty, (Instr.next (.pointer (some ⟨w.heap.size + 1 + 1, 0, none⟩)) true ty).run Tryz.prog wr = .ok (.tuple #[.bool true, .int .i64 j, .int .i32 65]) W1 := hnx0 (by decide)
        have cA := cell_of_obj hbk (j := 1) (v := .int .i64 x.a) rfl
        have HP2 := Hid.mk' (HP1.out.set0 v)
        clear hnx0 hq hbk
        go_wp2_with fail
        go_roundw
        case rel => exact ⟨j + 1, by omega, by rw [HT.out]; exact HP2.out⟩
        case measure => rw [HMM.out, iterPos_of HP2.out.it]; omega
      · rw [hq] at hnx0 HT
        have hnx : ∀ ty, (Instr.next (.pointer (some ⟨w.heap.size + 1 + 1, 0, none⟩)) true ty).run Tryz.prog wr = .ok (.tuple #[.bool true, .int .i64 j, .int .i32 66]) W1 := hnx0 (by decide)
        have cA := cell_of_obj hbk (j := 2) (v := .int .i64 x.b) rfl
        have HP2 := Hid.mk' (HP1.out.set1 v)
        clear hnx0 hq hbk
        go_wp2_with fail
        go_roundw
        case rel => exact ⟨j + 1, by omega, by rw [HT.out]; exact HP2.out⟩
        case measure => rw [HMM.out, iterPos_of HP2.out.it]; omega
      · rw [hq] at hnx0 HT
        have hnx : ∀ ty, (Instr.next (.pointer (some ⟨w.heap.size + 1 + 1, 0, none⟩)) true ty).run Tryz.prog wr = .ok (.tuple #[.bool true, .int .i64 j, .int .i32 67]) W1 := hnx0 (by decide)
        have cA := cell_of_obj hbk (j := 3) (v := .int .i64 x.c) rfl
        have HP2 := Hid.mk' (HP1.out.set2 v)
        clear hnx0 hq hbk
        go_wp2_with fail
        go_roundw
        case rel => exact ⟨j + 1, by omega, by rw [HT.out]; exact HP2.out⟩
        case measure => rw [HMM.out, iterPos_of HP2.out.it]; omega
      · rw [hq] at hnx0 HT
        have hnx : ∀ ty, (Instr.next (.pointer (some ⟨w.heap.size + 1 + 1, 0, none⟩)) true ty).run Tryz.prog wr = .ok (.tuple #[.bool true, .int .i64 j, .int .i32 78]) W1 := hnx0 (by simp [letU])
        have cA := cell_of_obj hbk (j := 4) (v := .int .i64 x.n) rfl
        have HP2 := Hid.mk' (HP1.out.set3 v)
        clear hnx0 hq hbk
        go_wp2_with fail
        go_roundw
        case rel => exact ⟨j + 1, by omega, by rw [HT.out]; exact HP2.out⟩
        case measure => rw [HMM.out, iterPos_of HP2.out.it]; omega
    · have hje : j = L.length := by omega
      have hls : ¬ j < s.size := by rw [HS.out]; exact hlt
      have hnx : ∀ ty, (Instr.next (.pointer (some ⟨w.heap.size + 1 + 1, 0, none⟩)) true ty).run Tryz.prog wr = _ := fun ty => run_next_end_at wr (w.heap.size + 1 + 1) s j ty hpi.it hls
      have hX : IP j = X := by rw [hje]; exact HAL.out
      rw [hX] at hpi
      have HPI := Hid.mk' hpi
      have hbk := hpi.bx
      have hrk := hpi.rs
      have p0 := cell_of_obj hbk (j := 0) rfl
      have p1 := cell_of_obj hbk (j := 1) rfl
      have p2 := cell_of_obj hbk (j := 2) rfl
      have p3 := cell_of_obj hbk (j := 3) rfl
      have p4 := cell_of_obj hbk (j := 4) rfl
      have r0 := cell_of_obj hrk (j := 0) rfl
      have r1 := cell_of_obj hrk (j := 1) rfl
      have r2 := cell_of_obj hrk (j := 2) rfl
      have r3 := cell_of_obj hrk (j := 3) rfl
      have r4 := cell_of_obj hrk (j := 4) rfl
      have fz := fun i => Lib.frozen_of_heap hrk i
      clear hje hpi hls hbk hrk hX
      go_wp2_with fail
      exact bodyPost_ret (v := X.val) (by simp [results, Tryz.results43, go_sem, Is.val, *]) rfl ⟨rfl, ((((HPI.out.hb.setCell (Nat.le_refl _) _).setCell (Nat.le_refl _) _).setCell (Nat.le_refl _) _).setCell (Nat.le_refl _) _).setCell (Nat.le_refl _) _⟩
end Go.Proofs.YtboidkmnkicoeaaGreatDoor
