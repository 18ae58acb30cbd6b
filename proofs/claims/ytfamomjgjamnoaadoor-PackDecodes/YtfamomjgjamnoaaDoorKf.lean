/- pack.Encode. -/
import Derived.Test.YtfamomjgjamnoaaDoorKe
import Derived.Test.YtfamomjgjamnoaaDoorPa
namespace Go.Proofs.YtfamomjgjamnoaaDoor
open Go.RowKit Go.Sort

/-- What Encode's call comes to: the fault, and bytes of the call's own. -/
def EnP (m : Mo) (w : World) (e : Ending) (w' : World) : Prop := ∃ v, e = .returned (.tuple #[v, fltV (mayZ m)]) ∧ Ob w.heap.size (encB m) v w' ∧ Below w.heap.size w w'
theorem set3 (W : World) (b : Nat) (v0 v1 v2 : Value) : ∀ k, k ≠ b → (((W.setCell ⟨b, 0, none⟩ v0).setCell ⟨b, 1, none⟩ v1).setCell ⟨b, 2, none⟩ v2).heap[k]? = W.heap[k]? := fun k hk => by
  rw [Below.heap_setCell _ _ _ _ hk, Below.heap_setCell _ _ _ _ hk, Below.heap_setCell _ _ _ _ hk]
set_option maxRecDepth 100000 in
set_option maxHeartbeats 4000000 in
theorem encode_any (m : Mo) (w : World) (ht : Tab w) (hm : m.In w) : Calls Tryd.prog 8 #[m.val] w (EnP m w) := by
  have hb0 := Below.one (Below.refl _ w) (.cells (moC m) 25)
  have hb1 := Below.one hb0 (.cells #[.int .i64 0, .int .i64 0, .int .i64 0] 30)
  have xm0 := heap_alloc_new w (.cells (moC m) 25)
  have xm := blk_stay xm0 (Below.one (Below.refl _ _) (.cells #[.int .i64 0, .int .i64 0, .int .i64 0] 30))
  have xf := heap_alloc_new (w.alloc (.cells (moC m) 25)) (.cells #[.int .i64 0, .int .i64 0, .int .i64 0] 30)
  rw [World.size_alloc] at xf
  have HM := Hid.mk' (may_any m _ (ht.stay hb1) (hm.stay hb1))
  have HMO : Hid (∀ (b : Nat) (v : Value) (W : World), (moB m).length ≤ 80000000 → Below w.heap.size w W → WrAt w.heap.size b [] v W → Calls Tryd.prog 17 #[.pointer (some ⟨b, 0, none⟩), m.val] W (WrP w.heap.size b (moB m) W)) := fun b v W hl hb h => wmod_any w b v W m h hb hm hl
  have HB := Hid.mk' hb1
  have HXM := Hid.mk' xm
  have HXF := Hid.mk' xf
  have x0 := cell_of_obj xm (j := 0) (v := .slice m.ta m.ths.length m.tc) rfl
  have x1 := cell_of_obj xm (j := 1) (v := .slice m.fa m.funcs.length m.fc) rfl
  have HY : Hid ((mayZ m).1 = 0 → mayZ m = (0, 0, 0) ∧ encB m = moB m ∧ (moB m).length ≤ 80000000) := fun hz => ⟨may_zero hz, if_pos hz, by have := moB_len (may_ok hz); omega⟩
  have HN : Hid ((mayZ m).1 ≠ 0 → encB m = []) := fun hz => if_neg hz
  clear ht hm hb0 hb1 xm0 xm xf
  unfold EnP
  unfold fltV at *
  generalize mayZ m = z at *
  obtain ⟨z0, z1, z2⟩ := z
  generalize encB m = E at *
  unfold Mo.val at *
  go_enter Tryd.func8, Tryd.ntmps8
  go_wp2_with fail
  generalize (w.alloc (.cells (moC m) 25)).alloc (.cells #[.int .i64 0, .int .i64 0, .int .i64 0] 30) = W1 at *
  refine HM.out.mono ?_
  rintro e W2 ⟨rfl, hb2⟩
  have hs1 : w.heap.size + 1 < W2.heap.size := by have h1 := (Array.getElem?_eq_some_iff.1 HXF.out).1; have h2 := hb2.size; omega
  have hb3 := Below.one hb2 (.cells #[.int .i64 z0, .int .i64 z1, .int .i64 z2] 30)
  have HF := Hid.mk' (heap_alloc_new W2 (.cells #[.int .i64 z0, .int .i64 z1, .int .i64 z2] 30))
  replace HB := Hid.mk' (Below.on HB.out hb3)
  replace HXM := Hid.mk' (blk_stay HXM.out hb3)
  replace HXF := Hid.mk' (blk_stay HXF.out hb3)
  have hg : ¬ W2.heap.size = w.heap.size + 1 := by omega
  have hg' : ¬ w.heap.size + 1 = W2.heap.size := by omega
  have f0 := cell_of_obj HF.out (j := 0) (v := .int .i64 z0) rfl
  have f1 := cell_of_obj HF.out (j := 1) (v := .int .i64 z1) rfl
  have f2 := cell_of_obj HF.out (j := 2) (v := .int .i64 z2) rfl
  clear hb2 hb3 HM x0 x1
  by_cases hz0 : z0 = 0
  · obtain ⟨hz, he, hl⟩ := HY.out hz0
    subst hz0
    injection hz with _ hz
    injection hz with hz1 hz2
    subst hz1 hz2 he
    have HL := Hid.mk' hl
    clear HY HN hl
    go_upto_region 5 with fail
    have hs3 : (W2.alloc (.cells #[.int .i64 0, .int .i64 0, .int .i64 0] 30)).heap.size = W2.heap.size + 1 := World.size_alloc ..
    have HS3 := Hid.mk' hs3
    clear hs3
    generalize W2.alloc (.cells #[.int .i64 0, .int .i64 0, .int .i64 0] 30) = W3 at *
    have hb4 := Below.one (Below.refl _ W3) (.cells #[.slice none 0 0] 51)
    have HW : Hid (WrAt w.heap.size W3.heap.size [] (.slice none 0 0) (W3.alloc (.cells #[.slice none 0 0] 51))) := ⟨heap_alloc_new W3 _, World.ownsRow_nil _ _ _ _, HB.out.size⟩
    have hnm : ¬ w.heap.size = W3.heap.size := by have := (Array.getElem?_eq_some_iff.1 HXF.out).1; omega
    have hnf : ¬ w.heap.size + 1 = W3.heap.size := by have := (Array.getElem?_eq_some_iff.1 HXF.out).1; omega
    rw [HS3.out] at HW hnm hnf
    clear HS3
    replace HB := Hid.mk' (Below.on HB.out hb4)
    replace HXM := Hid.mk' (blk_stay HXM.out hb4)
    replace HXF := Hid.mk' (blk_stay HXF.out hb4)
    have x0 := cell_of_obj HXM.out (j := 0) (v := .slice m.ta m.ths.length m.tc) rfl
    have x1 := cell_of_obj HXM.out (j := 1) (v := .slice m.fa m.funcs.length m.fc) rfl
    clear hb4 f0 f1 f2 HF
    go_wp2_with fail
    generalize W3.alloc (.cells #[.slice none 0 0] 51) = W4 at *
    generalize W2.heap.size + 1 = b at *
    refine (HMO.out _ _ _ HL.out HB.out HW.out).mono ?_
    rintro e W5 ⟨rfl, ⟨v5, h5⟩, hk5⟩
    have hF5 := hk5.o _ _ _ _ HXF.out (by decide) hnf
    obtain ⟨a5, c5, rfl⟩ := gown_form h5.ow
    have y0 := h5.cell
    have r0 := cell_of_obj hF5 (j := 0) (v := .int .i64 0) rfl
    have r1 := cell_of_obj hF5 (j := 1) (v := .int .i64 0) rfl
    have r2 := cell_of_obj hF5 (j := 2) (v := .int .i64 0) rfl
    have r3 := Lib.frozen_of_heap hF5 0
    have r4 := Lib.frozen_of_heap hF5 1
    have r5 := Lib.frozen_of_heap hF5 2
    have HO := Hid.mk' h5.ow
    have HB5 := Hid.mk' (HB.out.trans hk5.bl)
    have HF5 := Hid.mk' hF5
    clear HW HMO HXM HXF HB hk5 h5 hF5 HL x0 x1
    go_wp2_with fail
    exact bodyPost_ret (v := .tuple #[.slice a5 (moB m).length c5, .agg #[.int .i64 0, .int .i64 0, .int .i64 0]]) (by simp [results, Tryd.results8, go_sem, *]) rfl ⟨_, rfl, own_put HO.out HF5.out (by decide) (set3 _ _ _ _ _), (((HB5.out.setCell (by simp only; omega) _).setCell (by simp only; omega) _).setCell (by simp only; omega) _)⟩
  · have hq : (z0 != 0) = true := bne_of hz0
    have hE := HN.out hz0
    subst hE
    have r0 := cell_of_obj HXF.out (j := 0) (v := .int .i64 0) rfl
    have r1 := cell_of_obj HXF.out (j := 1) (v := .int .i64 0) rfl
    have r2 := cell_of_obj HXF.out (j := 2) (v := .int .i64 0) rfl
    have r3 := Lib.frozen_of_heap HXF.out 0
    have r4 := Lib.frozen_of_heap HXF.out 1
    have r5 := Lib.frozen_of_heap HXF.out 2
    clear HY HN hz0 HMO
    go_upto_region 3 with fail
    generalize W2.alloc (.cells #[.int .i64 z0, .int .i64 z1, .int .i64 z2] 30) = W3 at *
    have hgl := (Array.getElem?_eq_some_iff.1 HXF.out).1
    clear HXM
    go_region
    all_goals go_wp2_with fail
    all_goals exact bodyPost_ret (v := .tuple #[.slice none 0 0, .agg #[.int .i64 z0, .int .i64 z1, .int .i64 z2]]) (by simp [results, Tryd.results8, go_sem, *]) rfl ⟨_, rfl, World.ownsRow_nil _ _ _ _, (((Below.drew HB.out).setCell (by simp only; omega) _).setCell (by simp only; omega) _).setCell (by simp only; omega) _⟩
end Go.Proofs.YtfamomjgjamnoaaDoor
