/- asm.Parse: what follows the loop. -/
import Derived.Test.YtboidkmnkicoeaaDoorJh
import Derived.Sort.CutIn
import Derived.BigRegionIn
namespace Go.Proofs.YtboidkmnkicoeaaDoor
open Go.RowKit Go.Shelf
attribute [local go_sem] Oper.semAt_some

noncomputable def sR : Code → Code | .seq _ b => b | c => c

noncomputable def inn : Code → Code | .block _ c => c | .loop c => c | .scope c => c | c => c
noncomputable def tailC : Code := sR (sR (sR (sR (inn (sR (Tryd.f11.body.getD .skip))))))
theorem setCell_id {W : World} {B j : Nat} {cs : Array Value} {t : TypeId} {v : Value} (h : W.heap[B]? = some (.cells cs t)) (hj : cs[j]? = some v) : W.setCell ⟨B, j, none⟩ v = W := by
  have hh : (W.setCell ⟨B, j, none⟩ v).heap = W.heap := by
    refine Array.ext_getElem? (fun k => ?_)
    by_cases e : k = B
    · subst e
      rw [heap_setCell_same W k j cs t v h, h]
      congr 2
      refine Array.ext_getElem? (fun i => ?_)
      rw [Array.getElem?_setIfInBounds]
      split
      · rename_i e; subst e
        rw [if_pos (Array.getElem?_eq_some_iff.1 hj).1, hj]
      · rfl
    · exact Below.heap_setCell _ _ _ _ e
  have h2 : W.setCell ⟨B, j, none⟩ v = { W with heap := (W.setCell ⟨B, j, none⟩ v).heap } := rfl
  rw [h2, hh]
set_option maxRecDepth 100000 in
set_option maxHeartbeats 4000000 in
theorem tail_err (W : World) (D : List Deferred) (b0 b1 b2 b3 : Nat) (ev nn av : Int) (u0 u1 u3 u4 u5 u10 u11 u12 u13 u14 u15 u16 u17 u18 u19 u20 u21 u22 u23 u24 u25 u26 u27 u28 u29 u30 u31 u32 u33 u34 u35 u36 u37 u38 u39 u40 u41 u42 u43 u44 u45 u46 u47 u48 u49 u50 u51 u52 u53 u54 u55 u56 u57 u58 u59 u60 u61 u62 u63 u64 u65 u66 : Value) (Q : Exit → Act → World → Prop) (n02 : ¬ (b2 = b0)) (n03 : ¬ (b3 = b0))
    (hm : W.heap[b0]? = some (.cells #[.slice none 0 0, .slice none 0 0] 25)) (he : Boxed W b2 27 (.int .i64 ev)) (ha : Boxed W b3 3 (.int .i64 av)) (hne : ev ≠ 0)
    (hQ : Hid (∀ (x53 x54 x59 x60 x61 x62 x63 x64 : Value), Q .ret { tmps := #[u0, u1, .pointer (some ⟨b0, 0, none⟩), .int .i64 ev, .int .i64 nn, .int .i64 av, .pointer (some ⟨b1, 0, none⟩), .pointer (some ⟨b2, 0, none⟩), .int .i64 nn, .pointer (some ⟨b3, 0, none⟩), u10, u11, u12, u13, u14, u15, u16, u17, u18, u19, u20, u21, u22, u23, u24, u25, u26, u27, u28, u29, u30, u31, u32, u33, u34, u35, u36, u37, u38, u39, u40, u41, u42, u43, u44, u45, u46, u47, u48, u49, u50, u51, u52, x53, x54, u55, u56, u57, u58, x59, x60, x61, x62, x63, x64, u65, u66], defers := D } W.drew)) :
    tailC.wpIn Fence.wide 6 Tryd.prog Q { tmps := #[u0, u1, .pointer (some ⟨b0, 0, none⟩), u3, u4, u5, .pointer (some ⟨b1, 0, none⟩), .pointer (some ⟨b2, 0, none⟩), .int .i64 nn, .pointer (some ⟨b3, 0, none⟩), u10, u11, u12, u13, u14, u15, u16, u17, u18, u19, u20, u21, u22, u23, u24, u25, u26, u27, u28, u29, u30, u31, u32, u33, u34, u35, u36, u37, u38, u39, u40, u41, u42, u43, u44, u45, u46, u47, u48, u49, u50, u51, u52, u53, u54, u55, u56, u57, u58, u59, u60, u61, u62, u63, u64, u65, u66], defers := D } W := by
  have e2 := he.cell
  have e3 := ha.cell
  have m0 := cell_of_obj hm (j := 0) (v := .slice none 0 0) rfl
  have m1 := cell_of_obj hm (j := 1) (v := .slice none 0 0) rfl
  have f0 := Lib.frozen_of_heap hm 0
  have f1 := Lib.frozen_of_heap hm 1
  have e2' : W.drew.cell? ⟨b2, 0, none⟩ = some (.int .i64 ev) := e2
  have e3' : W.drew.cell? ⟨b3, 0, none⟩ = some (.int .i64 av) := e3
  have m0' : W.drew.cell? ⟨b0, 0, none⟩ = some (.slice none 0 0) := m0
  have m1' : W.drew.cell? ⟨b0, 1, none⟩ = some (.slice none 0 0) := m1
  have f0' : W.drew.frozen? ⟨b0, 0, none⟩ = false := f0
  have f1' : W.drew.frozen? ⟨b0, 1, none⟩ = false := f1
  have hq1 : (ev == 0) = false := beq_no hne
  have hq2 : (ev != 0) = true := bne_of hne
  have HM := Hid.mk' hm
  clear hm he ha hne
  simp only [tailC, Tryd.f11, Option.getD_some, sR, inn]
  gi_wp2_with fail
  gi_region
  all_goals
    gi_wp2_with fail
    rw [setCell_id HM.out (j := 0) (v := .slice none 0 0) rfl, setCell_id HM.out (j := 1) (v := .slice none 0 0) rfl]
    exact hQ.out _ _ _ _ _ _ _ _
set_option maxRecDepth 100000 in
set_option maxHeartbeats 4000000 in
theorem tail_ok (W : World) (D : List Deferred) (N b0 b1 b2 b3 : Nat) (nn : Int) (n : Nat) (d : Dr) (vt vf vh : Value) (gs : List Fn) (B : Nat) (u0 u1 u3 u4 u5 u10 u11 u12 u13 u14 u15 u16 u17 u18 u19 u20 u21 u22 u23 u24 u25 u26 u27 u28 u29 u30 u31 u32 u33 u34 u35 u36 u37 u38 u39 u40 u41 u42 u43 u44 u45 u46 u47 u48 u49 u50 u51 u52 u53 u54 u55 u56 u57 u58 u59 u60 u61 u62 u63 u64 u65 u66 : Value) (Q : Exit → Act → World → Prop) (n02 : ¬ (b2 = b0)) (n03 : ¬ (b3 = b0)) (n12 : ¬ (b1 = b2)) (n23 : ¬ (b3 = b2))
    (h : Env W) (hd : DrAt N b1 d vt vf vh gs B W) (hn : n ≤ 1000000000000000) (hk : DOk n d)
    (hm : W.heap[b0]? = some (.cells #[.slice none 0 0, .slice none 0 0] 25)) (he : Boxed W b2 27 (.int .i64 0)) (ha : Boxed W b3 3 (.int .i64 0))
    (hQ1 : Hid (ckE d ≠ 0 → ∀ (x53 x54 x55 x56 x57 x58 x59 x60 x61 x62 x63 x64 : Value) (W1 : World), Below W.heap.size W W1 → Q .ret { tmps := #[u0, u1, .pointer (some ⟨b0, 0, none⟩), .int .i64 (ckE d), .int .i64 (ckL d), .int .i64 0, .pointer (some ⟨b1, 0, none⟩), .pointer (some ⟨b2, 0, none⟩), .int .i64 (ckL d), .pointer (some ⟨b3, 0, none⟩), u10, u11, u12, u13, u14, u15, u16, u17, u18, u19, u20, u21, u22, u23, u24, u25, u26, u27, u28, u29, u30, u31, u32, u33, u34, u35, u36, u37, u38, u39, u40, u41, u42, u43, u44, u45, u46, u47, u48, u49, u50, u51, u52, x53, x54, x55, x56, x57, x58, x59, x60, x61, x62, x63, x64, u65, u66], defers := D } (W1.setCell ⟨b2, 0, none⟩ (.int .i64 (ckE d))).drew))
    (hQ0 : Hid (ckE d = 0 → ∀ (x53 x54 x55 x56 x57 x58 x59 x60 x65 x66 : Value) (W1 : World), Below W.heap.size W W1 → Q .ret { tmps := #[u0, u1, .pointer (some ⟨b0, 0, none⟩), .int .i64 0, .int .i64 0, .int .i64 0, .pointer (some ⟨b1, 0, none⟩), .pointer (some ⟨b2, 0, none⟩), .int .i64 (ckL d), .pointer (some ⟨b3, 0, none⟩), u10, u11, u12, u13, u14, u15, u16, u17, u18, u19, u20, u21, u22, u23, u24, u25, u26, u27, u28, u29, u30, u31, u32, u33, u34, u35, u36, u37, u38, u39, u40, u41, u42, u43, u44, u45, u46, u47, u48, u49, u50, u51, u52, x53, x54, x55, x56, x57, x58, x59, x60, u61, u62, u63, u64, x65, x66], defers := D } ((W1.setCell ⟨b0, 0, none⟩ vt).setCell ⟨b0, 1, none⟩ vf))) :
    tailC.wpIn Fence.wide 6 Tryd.prog Q { tmps := #[u0, u1, .pointer (some ⟨b0, 0, none⟩), u3, u4, u5, .pointer (some ⟨b1, 0, none⟩), .pointer (some ⟨b2, 0, none⟩), .int .i64 nn, .pointer (some ⟨b3, 0, none⟩), u10, u11, u12, u13, u14, u15, u16, u17, u18, u19, u20, u21, u22, u23, u24, u25, u26, u27, u28, u29, u30, u31, u32, u33, u34, u35, u36, u37, u38, u39, u40, u41, u42, u43, u44, u45, u46, u47, u48, u49, u50, u51, u52, u53, u54, u55, u56, u57, u58, u59, u60, u61, u62, u63, u64, u65, u66], defers := D } W := by
  have e2 := he.cell
  have HCK := Hid.mk' (check_any N b1 d vt vf vh gs B W h hd n hn hk)
  have HKP : Hid (∀ W1, Below W.heap.size W W1 → Boxed W1 b2 27 (.int .i64 0) ∧ Boxed W1 b3 3 (.int .i64 0) ∧ W1.heap[b0]? = some (.cells #[.slice none 0 0, .slice none 0 0] 25) ∧ W1.heap[b1]? = some (.cells #[vt, vf, vh] 57)) := fun W1 hb => ⟨boxed_stay he hb, boxed_stay ha hb, (hb.block _ (Array.getElem?_eq_some_iff.1 hm).1).trans hm, (hd.stay hb).bk⟩
  obtain ⟨ta, tc, rfl⟩ := gown_form hd.ot
  obtain ⟨fa, fc, rfl⟩ := gown_form hd.of
  generalize (d.ths.take 20).length = tl at *
  clear h hd hk hm he ha hn
  generalize ckE d = E at *
  generalize ckL d = L at *
  simp only [tailC, Tryd.f11, Option.getD_some, sR, inn]
  gi_wp2_with fail
  refine ⟨trivial, ?_⟩
  refine (callsIn_wide.2 HCK.out).mono ?_
  rintro e W1 ⟨rfl, hb1⟩
  obtain ⟨k2, k3, km, kd⟩ := HKP.out W1 hb1
  replace e2 := k2.cell
  have f2 := k2.frozen
  by_cases hz : E = 0
  · subst hz
    have HZ := Hid.mk' (setCell_same k2)
    have HQ := Hid.mk' (hQ0.out rfl)
    clear hQ0 hQ1
    have d0 := cell_of_obj kd (j := 0) (v := .slice ta tl tc) rfl
    have d1 := cell_of_obj kd (j := 1) (v := .slice fa gs.length fc) rfl
    have m0 := cell_of_obj km (j := 0) (v := .slice none 0 0) rfl
    have m1 := cell_of_obj km (j := 1) (v := .slice none 0 0) rfl
    have f0 := Lib.frozen_of_heap km 0
    have f1 := Lib.frozen_of_heap km 1
    have HB := Hid.mk' hb1
    clear hb1 k2 k3 km kd HCK HKP
    gi_wp2_with fail
    rw [HZ.out]
    exact HQ.out _ _ _ _ _ _ _ _ _ _ _ HB.out
  · have hq1 : (E == 0) = false := beq_no hz
    have hq2 : (E != 0) = true := bne_of hz
    have z2 := k2.set (.int .i64 E)
    have z3 := k3.other (B' := b2) n23 (.int .i64 E)
    have zm : (W1.setCell ⟨b2, 0, none⟩ (.int .i64 E)).heap[b0]? = _ := (Below.heap_setCell _ _ _ _ (fun e => n02 e.symm)).trans km
    have HB := Hid.mk' hb1
    have HE := Hid.mk' hz
    clear hb1 k2 k3 km kd HCK HKP hz
    have y2 := z2.cell
    have y3 := z3.cell
    have m0 := cell_of_obj zm (j := 0) (v := .slice none 0 0) rfl
    have m1 := cell_of_obj zm (j := 1) (v := .slice none 0 0) rfl
    have f0 := Lib.frozen_of_heap zm 0
    have f1 := Lib.frozen_of_heap zm 1
    have HM := Hid.mk' zm
    have H1 := Hid.mk' (hQ1.out HE.out)
    clear zm z2 z3
    gi_wp2_with fail
    generalize hW2 : W1.setCell ⟨b2, 0, none⟩ (.int .i64 E) = W2 at *
    have HW2 := Hid.mk' hW2
    clear hW2
    have e2' : W2.drew.cell? ⟨b2, 0, none⟩ = some (.int .i64 E) := y2
    have e3' : W2.drew.cell? ⟨b3, 0, none⟩ = some (.int .i64 0) := y3
    have m0' : W2.drew.cell? ⟨b0, 0, none⟩ = some (.slice none 0 0) := m0
    have m1' : W2.drew.cell? ⟨b0, 1, none⟩ = some (.slice none 0 0) := m1
    have f0' : W2.drew.frozen? ⟨b0, 0, none⟩ = false := f0
    have f1' : W2.drew.frozen? ⟨b0, 1, none⟩ = false := f1
    gi_region
    all_goals
      gi_wp2_with fail
      rw [setCell_id HM.out (j := 0) (v := .slice none 0 0) rfl, setCell_id HM.out (j := 1) (v := .slice none 0 0) rfl]
      rw [← HW2.out]
      exact H1.out _ _ _ _ _ _ _ _ _ _ _ _ _ HB.out
end Go.Proofs.YtboidkmnkicoeaaDoor
