/- pack's reader of modules: spans, instructions; the mark; the end. -/
import Derived.Test.YtfamomjgjamnoaaDoorKt
namespace Go.Proofs.YtfamomjgjamnoaaDoor
open Go.RowKit Go.Sort

/-- A block that is not the reader's nor its bytes' is written. -/
theorem RdAt.set {T : TypeId} {R : Nat} {bs : Bt} {va : Option Addr} {vc : Nat} {s : Sr} {W : World} (h : RdAt T R bs va vc s W) {b : Nat} (hR : b ≠ R) (hv : ∀ a, va = some a → a.block ≠ b) (j : Nat) (u : Value) : RdAt T R bs va vc s (W.setCell ⟨b, j, none⟩ u) := by
  refine h.put (Below.heap_setCell _ _ _ _ (by simpa using hR.symm)) fun i cs hi => ?_
  obtain ⟨b', o, e, hc⟩ := h.by' i cs hi
  refine ⟨b', o, e, fun q v hq => ?_⟩
  have h1 := hc q v hq
  have h2 : (W.setCell ⟨b, j, none⟩ u).heap[b']? = W.heap[b']? := Below.heap_setCell _ _ _ _ (by simpa using hv _ e)
  unfold World.cell? at h1 ⊢
  simp only at h1 ⊢
  rw [h2]; exact h1
set_option maxRecDepth 100000 in
set_option maxHeartbeats 4000000 in
theorem rdSpan_any (T : TypeId) (R : Nat) (bs : Bt) (va : Option Addr) (vc : Nat) (s : Sr) (w : World) (h : RdAt T R bs va vc s w) (hv : ∀ a, va = some a → a.block < w.heap.size) :
    Calls Tryd.prog 58 #[.pointer (some ⟨R, 0, none⟩)] w (RdP T R bs va vc s spR spV (fun x _ => spOk x) w) := by
  have hR := h.lt
  have b1 := Below.one (Below.refl _ w) (.cells #[.int .i64 0, .int .i64 0] 56)
  have b2 := Below.one b1 (.cells #[.int .i64 0, .int .i64 0] 56)
  have x0 := blk_stay (heap_alloc_new w (.cells #[.int .i64 0, .int .i64 0] 56)) (Below.one (Below.refl _ _) (.cells #[.int .i64 0, .int .i64 0] 56))
  have x1 := heap_alloc_new (w.alloc (.cells #[.int .i64 0, .int .i64 0] 56)) (.cells #[.int .i64 0, .int .i64 0] 56)
  rw [World.size_alloc] at x1
  have HR := Hid.mk' (h.stay b2)
  have HO := Hid.mk' (OnlyB.of (R := R) b2)
  have HX0 := Hid.mk' x0
  have HX1 := Hid.mk' x1
  have HV1 : Hid (∀ a, va = some a → a.block ≠ w.heap.size + 1) := fun a e => by have := hv a e; omega
  have HV0 : Hid (∀ a, va = some a → a.block ≠ w.heap.size) := fun a e => by have := hv a e; omega
  have HWd := Hid.mk' (fun s W h => rdWord_any T R bs va vc s W h)
  have HBy := Hid.mk' (fun s W h => rdByte_any T R bs va vc s W h)
  have hn0 : w.heap.size ≠ R := by omega
  have hn1 : w.heap.size + 1 ≠ R := by omega
  clear h b1 b2 x0 x1 hv
  go_enter Tryd.func58, Tryd.ntmps58
  go_wp2_with fail
  generalize (w.alloc (.cells #[.int .i64 0, .int .i64 0] 56)).alloc (.cells #[.int .i64 0, .int .i64 0] 56) = W0 at *
  refine (HWd.out _ _ HR.out).mono ?_
  rintro e V0 ⟨p0, s0, rfl, r0, q0, o0, i0⟩
  have HR0 := Hid.mk' (And.intro r0 i0)
  have X1 := o0.blk HX1.out hn1
  have y := cell_of_obj X1 (j := 0) (v := .int .i64 0) rfl
  have z := Lib.frozen_of_heap X1 0
  replace HX0 := Hid.mk' ((Below.heap_setCell V0 ⟨w.heap.size + 1, 0, none⟩ (.int .i64 p0) w.heap.size (by simp)).trans (o0.blk HX0.out hn0))
  replace HX1 : Hid ((V0.setCell ⟨w.heap.size + 1, 0, none⟩ (.int .i64 p0)).heap[w.heap.size + 1]? = some (.cells #[.int .i64 p0, .int .i64 0] 56)) := (by simpa using heap_setCell_same V0 (w.heap.size + 1) 0 _ _ (.int .i64 p0) X1 : _ = _)
  replace HR := Hid.mk' (q0.set hn1 HV1.out 0 (.int .i64 p0))
  replace HO := Hid.mk' ((HO.out.on o0).put (Nat.le_succ w.heap.size) 0 (.int .i64 p0))
  clear r0 q0 o0 i0 X1
  go_wp2_with fail
  generalize V0.setCell ⟨w.heap.size + 1, 0, none⟩ (.int .i64 p0) = W1 at *
  clear y z
  refine (HWd.out _ _ HR.out).mono ?_
  rintro e V1 ⟨p1, s1, rfl, r1, q1, o1, i1⟩
  have HR1 := Hid.mk' (And.intro r1 i1)
  have X1 := o1.blk HX1.out hn1
  have y := cell_of_obj X1 (j := 1) (v := .int .i64 0) rfl
  have z := Lib.frozen_of_heap X1 1
  replace HX0 := Hid.mk' ((Below.heap_setCell V1 ⟨w.heap.size + 1, 1, none⟩ (.int .i64 p1) w.heap.size (by simp)).trans (o1.blk HX0.out hn0))
  replace HX1 : Hid ((V1.setCell ⟨w.heap.size + 1, 1, none⟩ (.int .i64 p1)).heap[w.heap.size + 1]? = some (.cells #[.int .i64 p0, .int .i64 p1] 56)) := (by simpa using heap_setCell_same V1 (w.heap.size + 1) 1 _ _ (.int .i64 p1) X1 : _ = _)
  replace HR := Hid.mk' (q1.set hn1 HV1.out 1 (.int .i64 p1))
  replace HO := Hid.mk' ((HO.out.on o1).put (Nat.le_succ w.heap.size) 1 (.int .i64 p1))
  clear r1 q1 o1 i1 X1
  go_upto_region 4 with fail
  generalize V1.setCell ⟨w.heap.size + 1, 1, none⟩ (.int .i64 p1) = W2 at *
  clear y z
  have y0 := cell_of_obj HX1.out (j := 0) (v := .int .i64 p0) rfl
  have z0 := cell_of_obj HX0.out (j := 0) (v := .int .i64 0) rfl
  have f0 := Lib.frozen_of_heap HX0.out 0
  have y1 := cell_of_obj HX1.out (j := 1) (v := .int .i64 p1) rfl
  have z1 := cell_of_obj HX0.out (j := 1) (v := .int .i64 0) rfl
  have f1 := Lib.frozen_of_heap HX0.out 1
  go_wp2_with fail
  exact bodyPost_ret (v := .agg #[.int .i64 p0, .int .i64 p1]) (by simp [results, Tryd.results58, go_sem, *]) rfl ⟨(p0, p1), _, rfl, (HR0.out.1.bind (HR1.out.1.bind (Rn.ret _))), ((HR.out.set hn0 HV0.out 0 (.int .i64 p0)).set hn0 HV0.out 1 (.int .i64 p1)), ((HO.out.put (Nat.le_refl _) 0 (.int .i64 p0)).put (Nat.le_refl _) 1 (.int .i64 p1)), ⟨HR0.out.2, HR1.out.2⟩⟩
theorem by8 {n : Int} (h : 0 ≤ n ∧ n ≤ 255) : I64 n := by unfold I64; omega
set_option maxRecDepth 100000 in
set_option maxHeartbeats 4000000 in
theorem rdIns_any (T : TypeId) (R : Nat) (bs : Bt) (va : Option Addr) (vc : Nat) (s : Sr) (w : World) (h : RdAt T R bs va vc s w) (hv : ∀ a, va = some a → a.block < w.heap.size) :
    Calls Tryd.prog 61 #[.pointer (some ⟨R, 0, none⟩)] w (RdP T R bs va vc s isR Is.val (fun x _ => x.Ok) w) := by
  have hR := h.lt
  have b1 := Below.one (Below.refl _ w) (.cells #[.int .i64 0, .int .i64 0, .int .i64 0, .int .i64 0, .int .i64 0] 58)
  have b2 := Below.one b1 (.cells #[.int .i64 0, .int .i64 0, .int .i64 0, .int .i64 0, .int .i64 0] 58)
  have x0 := blk_stay (heap_alloc_new w (.cells #[.int .i64 0, .int .i64 0, .int .i64 0, .int .i64 0, .int .i64 0] 58)) (Below.one (Below.refl _ _) (.cells #[.int .i64 0, .int .i64 0, .int .i64 0, .int .i64 0, .int .i64 0] 58))
  have x1 := heap_alloc_new (w.alloc (.cells #[.int .i64 0, .int .i64 0, .int .i64 0, .int .i64 0, .int .i64 0] 58)) (.cells #[.int .i64 0, .int .i64 0, .int .i64 0, .int .i64 0, .int .i64 0] 58)
  rw [World.size_alloc] at x1
  have HR := Hid.mk' (h.stay b2)
  have HO := Hid.mk' (OnlyB.of (R := R) b2)
  have HX0 := Hid.mk' x0
  have HX1 := Hid.mk' x1
  have HV1 : Hid (∀ a, va = some a → a.block ≠ w.heap.size + 1) := fun a e => by have := hv a e; omega
  have HV0 : Hid (∀ a, va = some a → a.block ≠ w.heap.size) := fun a e => by have := hv a e; omega
  have HWd := Hid.mk' (fun s W h => rdWord_any T R bs va vc s W h)
  have HBy := Hid.mk' (fun s W h => rdByte_any T R bs va vc s W h)
  have hn0 : w.heap.size ≠ R := by omega
  have hn1 : w.heap.size + 1 ≠ R := by omega
  clear h b1 b2 x0 x1 hv
  go_enter Tryd.func61, Tryd.ntmps61
  go_wp2_with fail
  generalize (w.alloc (.cells #[.int .i64 0, .int .i64 0, .int .i64 0, .int .i64 0, .int .i64 0] 58)).alloc (.cells #[.int .i64 0, .int .i64 0, .int .i64 0, .int .i64 0, .int .i64 0] 58) = W0 at *
  refine (HBy.out _ _ HR.out).mono ?_
  rintro e V0 ⟨p0, s0, rfl, r0, q0, o0, i0⟩
  have HR0 := Hid.mk' (And.intro r0 i0)
  have X1 := o0.blk HX1.out hn1
  have y := cell_of_obj X1 (j := 0) (v := .int .i64 0) rfl
  have z := Lib.frozen_of_heap X1 0
  replace HX0 := Hid.mk' ((Below.heap_setCell V0 ⟨w.heap.size + 1, 0, none⟩ (.int .i64 p0) w.heap.size (by simp)).trans (o0.blk HX0.out hn0))
  replace HX1 : Hid ((V0.setCell ⟨w.heap.size + 1, 0, none⟩ (.int .i64 p0)).heap[w.heap.size + 1]? = some (.cells #[.int .i64 p0, .int .i64 0, .int .i64 0, .int .i64 0, .int .i64 0] 58)) := (by simpa using heap_setCell_same V0 (w.heap.size + 1) 0 _ _ (.int .i64 p0) X1 : _ = _)
  replace HR := Hid.mk' (q0.set hn1 HV1.out 0 (.int .i64 p0))
  replace HO := Hid.mk' ((HO.out.on o0).put (Nat.le_succ w.heap.size) 0 (.int .i64 p0))
  clear r0 q0 o0 i0 X1
  go_wp2_with fail
  generalize V0.setCell ⟨w.heap.size + 1, 0, none⟩ (.int .i64 p0) = W1 at *
  clear y z
  refine (HBy.out _ _ HR.out).mono ?_
  rintro e V1 ⟨p1, s1, rfl, r1, q1, o1, i1⟩
  have HR1 := Hid.mk' (And.intro r1 i1)
  have X1 := o1.blk HX1.out hn1
  have y := cell_of_obj X1 (j := 1) (v := .int .i64 0) rfl
  have z := Lib.frozen_of_heap X1 1
  replace HX0 := Hid.mk' ((Below.heap_setCell V1 ⟨w.heap.size + 1, 1, none⟩ (.int .i64 p1) w.heap.size (by simp)).trans (o1.blk HX0.out hn0))
  replace HX1 : Hid ((V1.setCell ⟨w.heap.size + 1, 1, none⟩ (.int .i64 p1)).heap[w.heap.size + 1]? = some (.cells #[.int .i64 p0, .int .i64 p1, .int .i64 0, .int .i64 0, .int .i64 0] 58)) := (by simpa using heap_setCell_same V1 (w.heap.size + 1) 1 _ _ (.int .i64 p1) X1 : _ = _)
  replace HR := Hid.mk' (q1.set hn1 HV1.out 1 (.int .i64 p1))
  replace HO := Hid.mk' ((HO.out.on o1).put (Nat.le_succ w.heap.size) 1 (.int .i64 p1))
  clear r1 q1 o1 i1 X1
  go_wp2_with fail
  generalize V1.setCell ⟨w.heap.size + 1, 1, none⟩ (.int .i64 p1) = W2 at *
  clear y z
  refine (HBy.out _ _ HR.out).mono ?_
  rintro e V2 ⟨p2, s2, rfl, r2, q2, o2, i2⟩
  have HR2 := Hid.mk' (And.intro r2 i2)
  have X1 := o2.blk HX1.out hn1
  have y := cell_of_obj X1 (j := 2) (v := .int .i64 0) rfl
  have z := Lib.frozen_of_heap X1 2
  replace HX0 := Hid.mk' ((Below.heap_setCell V2 ⟨w.heap.size + 1, 2, none⟩ (.int .i64 p2) w.heap.size (by simp)).trans (o2.blk HX0.out hn0))
  replace HX1 : Hid ((V2.setCell ⟨w.heap.size + 1, 2, none⟩ (.int .i64 p2)).heap[w.heap.size + 1]? = some (.cells #[.int .i64 p0, .int .i64 p1, .int .i64 p2, .int .i64 0, .int .i64 0] 58)) := (by simpa using heap_setCell_same V2 (w.heap.size + 1) 2 _ _ (.int .i64 p2) X1 : _ = _)
  replace HR := Hid.mk' (q2.set hn1 HV1.out 2 (.int .i64 p2))
  replace HO := Hid.mk' ((HO.out.on o2).put (Nat.le_succ w.heap.size) 2 (.int .i64 p2))
  clear r2 q2 o2 i2 X1
  go_wp2_with fail
  generalize V2.setCell ⟨w.heap.size + 1, 2, none⟩ (.int .i64 p2) = W3 at *
  clear y z
  refine (HBy.out _ _ HR.out).mono ?_
  rintro e V3 ⟨p3, s3, rfl, r3, q3, o3, i3⟩
  have HR3 := Hid.mk' (And.intro r3 i3)
  have X1 := o3.blk HX1.out hn1
  have y := cell_of_obj X1 (j := 3) (v := .int .i64 0) rfl
  have z := Lib.frozen_of_heap X1 3
  replace HX0 := Hid.mk' ((Below.heap_setCell V3 ⟨w.heap.size + 1, 3, none⟩ (.int .i64 p3) w.heap.size (by simp)).trans (o3.blk HX0.out hn0))
  replace HX1 : Hid ((V3.setCell ⟨w.heap.size + 1, 3, none⟩ (.int .i64 p3)).heap[w.heap.size + 1]? = some (.cells #[.int .i64 p0, .int .i64 p1, .int .i64 p2, .int .i64 p3, .int .i64 0] 58)) := (by simpa using heap_setCell_same V3 (w.heap.size + 1) 3 _ _ (.int .i64 p3) X1 : _ = _)
  replace HR := Hid.mk' (q3.set hn1 HV1.out 3 (.int .i64 p3))
  replace HO := Hid.mk' ((HO.out.on o3).put (Nat.le_succ w.heap.size) 3 (.int .i64 p3))
  clear r3 q3 o3 i3 X1
  go_wp2_with fail
  generalize V3.setCell ⟨w.heap.size + 1, 3, none⟩ (.int .i64 p3) = W4 at *
  clear y z
  refine (HWd.out _ _ HR.out).mono ?_
  rintro e V4 ⟨p4, s4, rfl, r4, q4, o4, i4⟩
  have HR4 := Hid.mk' (And.intro r4 i4)
  have X1 := o4.blk HX1.out hn1
  have y := cell_of_obj X1 (j := 4) (v := .int .i64 0) rfl
  have z := Lib.frozen_of_heap X1 4
  replace HX0 := Hid.mk' ((Below.heap_setCell V4 ⟨w.heap.size + 1, 4, none⟩ (.int .i64 p4) w.heap.size (by simp)).trans (o4.blk HX0.out hn0))
  replace HX1 : Hid ((V4.setCell ⟨w.heap.size + 1, 4, none⟩ (.int .i64 p4)).heap[w.heap.size + 1]? = some (.cells #[.int .i64 p0, .int .i64 p1, .int .i64 p2, .int .i64 p3, .int .i64 p4] 58)) := (by simpa using heap_setCell_same V4 (w.heap.size + 1) 4 _ _ (.int .i64 p4) X1 : _ = _)
  replace HR := Hid.mk' (q4.set hn1 HV1.out 4 (.int .i64 p4))
  replace HO := Hid.mk' ((HO.out.on o4).put (Nat.le_succ w.heap.size) 4 (.int .i64 p4))
  clear r4 q4 o4 i4 X1
  go_upto_region 7 with fail
  generalize V4.setCell ⟨w.heap.size + 1, 4, none⟩ (.int .i64 p4) = W5 at *
  clear y z
  have y0 := cell_of_obj HX1.out (j := 0) (v := .int .i64 p0) rfl
  have z0 := cell_of_obj HX0.out (j := 0) (v := .int .i64 0) rfl
  have f0 := Lib.frozen_of_heap HX0.out 0
  have y1 := cell_of_obj HX1.out (j := 1) (v := .int .i64 p1) rfl
  have z1 := cell_of_obj HX0.out (j := 1) (v := .int .i64 0) rfl
  have f1 := Lib.frozen_of_heap HX0.out 1
  have y2 := cell_of_obj HX1.out (j := 2) (v := .int .i64 p2) rfl
  have z2 := cell_of_obj HX0.out (j := 2) (v := .int .i64 0) rfl
  have f2 := Lib.frozen_of_heap HX0.out 2
  have y3 := cell_of_obj HX1.out (j := 3) (v := .int .i64 p3) rfl
  have z3 := cell_of_obj HX0.out (j := 3) (v := .int .i64 0) rfl
  have f3 := Lib.frozen_of_heap HX0.out 3
  have y4 := cell_of_obj HX1.out (j := 4) (v := .int .i64 p4) rfl
  have z4 := cell_of_obj HX0.out (j := 4) (v := .int .i64 0) rfl
  have f4 := Lib.frozen_of_heap HX0.out 4
  go_wp2_with fail
  exact bodyPost_ret (v := .agg #[.int .i64 p0, .int .i64 p1, .int .i64 p2, .int .i64 p3, .int .i64 p4]) (by simp [results, Tryd.results61, go_sem, *]) rfl ⟨⟨p0, p1, p2, p3, p4⟩, _, rfl, (HR0.out.1.bind (HR1.out.1.bind (HR2.out.1.bind (HR3.out.1.bind (HR4.out.1.bind (Rn.ret _)))))), (((((HR.out.set hn0 HV0.out 0 (.int .i64 p0)).set hn0 HV0.out 1 (.int .i64 p1)).set hn0 HV0.out 2 (.int .i64 p2)).set hn0 HV0.out 3 (.int .i64 p3)).set hn0 HV0.out 4 (.int .i64 p4)), (((((HO.out.put (Nat.le_refl _) 0 (.int .i64 p0)).put (Nat.le_refl _) 1 (.int .i64 p1)).put (Nat.le_refl _) 2 (.int .i64 p2)).put (Nat.le_refl _) 3 (.int .i64 p3)).put (Nat.le_refl _) 4 (.int .i64 p4)), ⟨by8 HR0.out.2, by8 HR1.out.2, by8 HR2.out.2, by8 HR3.out.2, HR4.out.2⟩⟩
set_option maxRecDepth 100000 in
set_option maxHeartbeats 4000000 in
theorem rdEnd_any (T : TypeId) (R : Nat) (bs : Bt) (va : Option Addr) (vc : Nat) (s : Sr) (w : World) (h : RdAt T R bs va vc s w) :
    Calls Tryd.prog 41 #[.pointer (some ⟨R, 0, none⟩)] w (RdP T R bs va vc s endR (fun _ => .tuple #[]) (fun _ _ => True) w) := by
  obtain ⟨a, e0, p0, hb, ha, hs⟩ := h.ex
  have HH := Hid.mk' h
  have c0 := cell_of_obj hb (j := 0) (v := .slice va bs.length vc) rfl
  have c1 := cell_of_obj hb (j := 1) (v := .int .i64 (a : Int)) rfl
  have g0 := fun d os => cell_regrown c0 d os
  have g1 := fun d os => cell_regrown c1 d os
  have HFA : Hid (∀ W, RdAt T R bs va vc s W → Calls Tryd.prog 54 #[.pointer (some ⟨R, 0, none⟩), .int .i64 7, .int .i64 (a : Int)] W fun en w' => en = .returned (.tuple #[]) ∧ RdAt T R bs va vc (failS s 7 (a : Int)) w' ∧ OnlyB R W w') := fun W h => fail_any T R bs va vc s W 7 _ h (by decide)
  have HA : Hid (a < bs.length → Rn endR bs s () (failS s 7 (a : Int))) := fun hlt => by
    cases s with
    | bad e p => rfl
    | «at» a' =>
      obtain ⟨rfl, _⟩ := ss_at hs
      simp only [Rn, endR, if_pos hlt]
      rfl
  have HN : Hid (¬ a < bs.length → Rn endR bs s () s) := fun hlt => by
    cases s with
    | bad e p => rfl
    | «at» a' =>
      obtain ⟨rfl, _⟩ := ss_at hs
      simp [Rn, endR, if_neg hlt]
  clear h hb hs c0 c1
  by_cases hlt : a < bs.length
  · have hli : (a : Int) < (bs.length : Int) := by omega
    go_enter Tryd.func41, Tryd.ntmps41
    go_wp2_with fail
    refine wp_region_quiet_below (by kernel_rfl) (by kernel_rfl) ?_
    repeat (go_big_quiet_step (fail))
    refine wpQuiet_nil ?_
    rintro _ ⟨⟨dq, osq⟩, rfl⟩
    have B2 := below_regrown w dq osq
    have HH2 := Hid.mk' (HH.out.stay B2)
    have HO := Hid.mk' (OnlyB.of (R := R) B2)
    have x1 := g1 dq osq
    clear g0 g1 B2
    generalize grow (redrawn w dq) osq = W2 at *
    go_wp2_with fail
    refine (HFA.out _ HH2.out).mono ?_
    rintro en W3 ⟨rfl, h3, ho3⟩
    go_wp2_with fail
    go_end0
    exact ⟨(), _, rfl, HA.out hlt, h3, HO.out.on ho3, trivial⟩
  · have hli : ¬ (a : Int) < (bs.length : Int) := by omega
    go_enter Tryd.func41, Tryd.ntmps41
    go_wp2_with fail
    refine wp_region_quiet_below (by kernel_rfl) (by kernel_rfl) ?_
    repeat (go_big_quiet_step (fail))
    refine wpQuiet_nil ?_
    rintro _ ⟨⟨dq, osq⟩, rfl⟩
    have B2 := below_regrown w dq osq
    have HH2 := Hid.mk' (HH.out.stay B2)
    have HO := Hid.mk' (OnlyB.of (R := R) B2)
    clear g0 g1 B2
    generalize grow (redrawn w dq) osq = W2 at *
    go_wp2_with fail
    go_end0
    exact ⟨(), _, rfl, HN.out hlt, HH2.out, HO.out, trivial⟩
set_option maxRecDepth 100000 in
set_option maxHeartbeats 4000000 in
theorem rdBegin_any (T : TypeId) (R : Nat) (bs : Bt) (va : Option Addr) (vc : Nat) (s : Sr) (w : World) (h : RdAt T R bs va vc s w) :
    Calls Tryd.prog 35 #[.pointer (some ⟨R, 0, none⟩)] w (RdP T R bs va vc s (marksR 4) (fun _ => .tuple #[]) (fun _ _ => True) w) := by
  have HH := Hid.mk' h
  have HBy := Hid.mk' (fun s W h => rdByte_any T R bs va vc s W h)
  have HFA : Hid (∀ s (i : Int) W, RdAt T R bs va vc s W → Calls Tryd.prog 54 #[.pointer (some ⟨R, 0, none⟩), .int .i64 5, .int .i64 i] W fun en w' => en = .returned (.tuple #[]) ∧ RdAt T R bs va vc (failS s 5 i) w' ∧ OnlyB R W w') := fun s i W h => fail_any T R bs va vc s W 5 _ h (by decide)
  clear h
  go_enter Tryd.func35, Tryd.ntmps35
  go_wp2_with fail
  go_loopw [3] (fun t3 wr => ∃ (j : Nat), j ≤ 4 ∧ t3 = .int .i64 j ∧ ∃ s', Rn (marksR j) bs s () s' ∧ RdAt T R bs va vc s' wr ∧ OnlyB R w wr) (fun t3 _ => 4 - (intOf t3).toNat)
  case atStart => exact ⟨0, Nat.zero_le _, rfl, s, Rn.ret (), HH.out, OnlyB.refl _ _⟩
  case round =>
    obtain ⟨j, hj, rfl, s', hrn, hrd, ho⟩ := hrel
    have HX := Hid.mk' (And.intro hrn (And.intro hrd ho))
    clear HH hrn hrd ho
    have hc : j = 0 ∨ j = 1 ∨ j = 2 ∨ j = 3 ∨ j = 4 := by omega
    clear hj
    rcases hc with rfl | rfl | rfl | rfl | rfl
    · go_upto_region 3 with fail
      go_region_with (go_at_call 53; refine (HBy.out _ _ HX.out.2.1.drew).mono ?_; rintro e W1 ⟨c, s1, rfl, r1, q1, o1, i1⟩)
      all_goals
        have HY := Hid.mk' (And.intro r1 (And.intro q1 (HX.out.2.2.drew o1)))
        clear r1 q1 o1 i1
        by_cases hc : c = 83
        · subst hc
          go_wp2_with fail
          go_roundw
          case rel => exact ⟨1, by decide, by go_num, s1, HX.out.1.bind (HY.out.1.mark_ok (i := 0) rfl), HY.out.2.1, HY.out.2.2⟩
          case measure => simp [intOf]
        · have hq : (c != 83) = true := bne_of hc
          have hk : IntKind.i64.wrap (((⟨#[83, 70, 84, 1]⟩ : ByteArray)[0]'(by decide)).toNat : Int) = 83 := by decide
          have hq2 : (c != IntKind.i64.wrap (((⟨#[83, 70, 84, 1]⟩ : ByteArray)[0]'(by decide)).toNat : Int)) = true := by rw [hk]; exact hq
          clear hk
          go_wp2_with fail
          refine (HFA.out _ _ _ HY.out.2.1).mono ?_
          rintro e W2 ⟨rfl, h2, o2⟩
          go_wp2_with fail
          go_roundw
          case rel => exact ⟨1, by decide, by go_num, _, HX.out.1.bind (HY.out.1.mark_no (i := 0) hc), h2, HY.out.2.2.on o2⟩
          case measure => simp [intOf]
    · go_upto_region 3 with fail
      go_region_with (go_at_call 53; refine (HBy.out _ _ HX.out.2.1.drew).mono ?_; rintro e W1 ⟨c, s1, rfl, r1, q1, o1, i1⟩)
      all_goals
        have HY := Hid.mk' (And.intro r1 (And.intro q1 (HX.out.2.2.drew o1)))
        clear r1 q1 o1 i1
        by_cases hc : c = 70
        · subst hc
          go_wp2_with fail
          go_roundw
          case rel => exact ⟨2, by decide, by go_num, s1, HX.out.1.bind (HY.out.1.mark_ok (i := 1) rfl), HY.out.2.1, HY.out.2.2⟩
          case measure => simp [intOf]
        · have hq : (c != 70) = true := bne_of hc
          have hk : IntKind.i64.wrap (((⟨#[83, 70, 84, 1]⟩ : ByteArray)[1]'(by decide)).toNat : Int) = 70 := by decide
          have hq2 : (c != IntKind.i64.wrap (((⟨#[83, 70, 84, 1]⟩ : ByteArray)[1]'(by decide)).toNat : Int)) = true := by rw [hk]; exact hq
          clear hk
          go_wp2_with fail
          refine (HFA.out _ _ _ HY.out.2.1).mono ?_
          rintro e W2 ⟨rfl, h2, o2⟩
          go_wp2_with fail
          go_roundw
          case rel => exact ⟨2, by decide, by go_num, _, HX.out.1.bind (HY.out.1.mark_no (i := 1) hc), h2, HY.out.2.2.on o2⟩
          case measure => simp [intOf]
    · go_upto_region 3 with fail
      go_region_with (go_at_call 53; refine (HBy.out _ _ HX.out.2.1.drew).mono ?_; rintro e W1 ⟨c, s1, rfl, r1, q1, o1, i1⟩)
      all_goals
        have HY := Hid.mk' (And.intro r1 (And.intro q1 (HX.out.2.2.drew o1)))
        clear r1 q1 o1 i1
        by_cases hc : c = 84
        · subst hc
          go_wp2_with fail
          go_roundw
          case rel => exact ⟨3, by decide, by go_num, s1, HX.out.1.bind (HY.out.1.mark_ok (i := 2) rfl), HY.out.2.1, HY.out.2.2⟩
          case measure => simp [intOf]
        · have hq : (c != 84) = true := bne_of hc
          have hk : IntKind.i64.wrap (((⟨#[83, 70, 84, 1]⟩ : ByteArray)[2]'(by decide)).toNat : Int) = 84 := by decide
          have hq2 : (c != IntKind.i64.wrap (((⟨#[83, 70, 84, 1]⟩ : ByteArray)[2]'(by decide)).toNat : Int)) = true := by rw [hk]; exact hq
          clear hk
          go_wp2_with fail
          refine (HFA.out _ _ _ HY.out.2.1).mono ?_
          rintro e W2 ⟨rfl, h2, o2⟩
          go_wp2_with fail
          go_roundw
          case rel => exact ⟨3, by decide, by go_num, _, HX.out.1.bind (HY.out.1.mark_no (i := 2) hc), h2, HY.out.2.2.on o2⟩
          case measure => simp [intOf]
    · go_upto_region 3 with fail
      go_region_with (go_at_call 53; refine (HBy.out _ _ HX.out.2.1.drew).mono ?_; rintro e W1 ⟨c, s1, rfl, r1, q1, o1, i1⟩)
      all_goals
        have HY := Hid.mk' (And.intro r1 (And.intro q1 (HX.out.2.2.drew o1)))
        clear r1 q1 o1 i1
        by_cases hc : c = 1
        · subst hc
          go_wp2_with fail
          go_roundw
          case rel => exact ⟨4, by decide, by go_num, s1, HX.out.1.bind (HY.out.1.mark_ok (i := 3) rfl), HY.out.2.1, HY.out.2.2⟩
          case measure => simp [intOf]
        · have hq : (c != 1) = true := bne_of hc
          have hk : IntKind.i64.wrap (((⟨#[83, 70, 84, 1]⟩ : ByteArray)[3]'(by decide)).toNat : Int) = 1 := by decide
          have hq2 : (c != IntKind.i64.wrap (((⟨#[83, 70, 84, 1]⟩ : ByteArray)[3]'(by decide)).toNat : Int)) = true := by rw [hk]; exact hq
          clear hk
          go_wp2_with fail
          refine (HFA.out _ _ _ HY.out.2.1).mono ?_
          rintro e W2 ⟨rfl, h2, o2⟩
          go_wp2_with fail
          go_roundw
          case rel => exact ⟨4, by decide, by go_num, _, HX.out.1.bind (HY.out.1.mark_no (i := 3) hc), h2, HY.out.2.2.on o2⟩
          case measure => simp [intOf]
    · go_wp2_with fail
      go_end0
      exact ⟨(), s', rfl, HX.out.1, HX.out.2.1, HX.out.2.2, trivial⟩
end Go.Proofs.YtfamomjgjamnoaaDoor
