/- asm.Print. -/
import Derived.Test.YtboidkmnkicoeaaDoorJf
import Derived.Test.YtboidkmnkicoeaaDoorYf
namespace Go.Proofs.YtboidkmnkicoeaaDoor
open Go.RowKit Go.Sort

/-- What Print answers. -/
def prnT (m : Mo) : Bt := if (mayZ m).1 = 0 then moT m else []
def prnV (m : Mo) : Value := .tuple #[.string (tb (prnT m)), fltV (mayZ m)]
set_option maxRecDepth 100000 in
set_option maxHeartbeats 2000000 in
theorem print_any (m : Mo) (w : World) (h : Env w) (hm : m.In w) : Calls Tryd.prog 7 #[m.val] w fun e w' => e = .returned (prnV m) ∧ Below w.heap.size w w' := by
  have hb2 := Below.one (Below.one (Below.refl _ w) (.cells (cM m) 25)) (.cells #[.int .i64 0, .int .i64 0, .int .i64 0] 29)
  have HM := Hid.mk' (may_any m _ (h.stay hb2).tab (hm.stay hb2))
  have HT : Hid ((mayZ m).1 = 0 → ∀ w', Below w.heap.size w w' → Calls Tryd.prog 14 #[m.val] w' fun e w'' => e = .returned (.string (tb (moT m))) ∧ Below w'.heap.size w' w'') := fun hz w' hb => textOf_any m w' (h.stay hb) (hm.stay hb) (may_pr hz)
  have HZ := Hid.mk' (fun hz => may_zero (m := m) hz)
  have HB2 := Hid.mk' hb2
  have x0 : ∀ j v, (cM m)[j]? = some v → ((w.alloc (.cells (cM m) 25)).alloc (.cells #[.int .i64 0, .int .i64 0, .int .i64 0] 29)).cell? ⟨w.heap.size, j, none⟩ = some v := fun j v hv => cell_kept_below (cell_of_obj (heap_alloc_new w (.cells (cM m) 25)) hv) (Below.one (Below.refl _ _) _)
  have c0 := x0 0 _ rfl
  have c1 := x0 1 _ rfl
  have bF : ((w.alloc (.cells (cM m) 25)).alloc (.cells #[.int .i64 0, .int .i64 0, .int .i64 0] 29)).heap[w.heap.size + 1]? = some (.cells #[.int .i64 0, .int .i64 0, .int .i64 0] 29) := by
    have := heap_alloc_new (w.alloc (.cells (cM m) 25)) (.cells #[.int .i64 0, .int .i64 0, .int .i64 0] 29)
    rwa [World.size_alloc] at this
  have HF := Hid.mk' bF
  unfold prnV prnT
  clear h hm x0 hb2 bF
  generalize mayZ m = z at *
  obtain ⟨z0, z1, z2⟩ := z
  unfold fltV at *
  unfold Mo.val at *
  go_enter Tryd.func7, Tryd.ntmps7
  go_wp2_with fail
  generalize (w.alloc (.cells (cM m) 25)).alloc (.cells #[.int .i64 0, .int .i64 0, .int .i64 0] 29) = W at *
  refine HM.out.mono ?_
  rintro e w1 ⟨rfl, hb1⟩
  have hb3 := Below.one hb1 (.cells #[.int .i64 z0, .int .i64 z1, .int .i64 z2] 29)
  replace c0 := cell_kept_below c0 hb3
  replace c1 := cell_kept_below c1 hb3
  have HF1 : Hid ((w1.alloc (.cells #[.int .i64 z0, .int .i64 z1, .int .i64 z2] 29)).heap[w.heap.size + 1]? = some (.cells #[.int .i64 0, .int .i64 0, .int .i64 0] 29)) := ((hb3.block _ (Array.getElem?_eq_some_iff.1 HF.out).1).trans HF.out : _ = _)
  have HB3 := Hid.mk' (Below.on HB2.out hb3)
  have hlt := (Array.getElem?_eq_some_iff.1 HF.out).1
  have hs1 := hb1.size
  clear hb1 hb3 HM
  by_cases hz : z0 = 0
  · have hz' := HZ.out hz
    simp only [Prod.mk.injEq] at hz'
    obtain ⟨rfl, rfl, rfl⟩ := hz'
    have HTT := Hid.mk' (HT.out rfl _ HB3.out)
    clear hz HZ HT
    go_wp2_with fail
    refine HTT.out.mono ?_
    rintro e w2 ⟨rfl, hb2⟩
    have f2 : w2.heap[w.heap.size + 1]? = _ := (hb2.block _ (Array.getElem?_eq_some_iff.1 HF1.out).1).trans HF1.out
    have q0 := cell_of_obj f2 (j := 0) (v := .int .i64 0) rfl
    have q1 := cell_of_obj f2 (j := 1) (v := .int .i64 0) rfl
    have q2 := cell_of_obj f2 (j := 2) (v := .int .i64 0) rfl
    have fz := fun j => Lib.frozen_of_heap f2 j
    go_wp2_with fail
    have hB := Below.on HB3.out hb2
    exact bodyPost_ret (v := .tuple #[.string (tb (moT m)), .agg #[.int .i64 0, .int .i64 0, .int .i64 0]]) (by simp [results, Tryd.results7, go_sem, *]) rfl ⟨rfl, ((hB.setCell (by simp only; omega) _).setCell (by simp only; omega) _).setCell (by simp only; omega) _⟩
  · have hq : (z0 != 0) = true := bne_of hz
    have q0 := cell_of_obj HF1.out (j := 0) (v := .int .i64 0) rfl
    have q1 := cell_of_obj HF1.out (j := 1) (v := .int .i64 0) rfl
    have q2 := cell_of_obj HF1.out (j := 2) (v := .int .i64 0) rfl
    have fz := fun j => Lib.frozen_of_heap HF1.out j
    have hz2 : ¬ z0 = 0 := hz
    clear hz HZ HT
    go_wp2_with fail
    go_region
    all_goals go_wp2_with fail
    all_goals exact bodyPost_ret (v := .tuple #[.string ⟨#[]⟩, .agg #[.int .i64 z0, .int .i64 z1, .int .i64 z2]]) (by simp [results, Tryd.results7, go_sem, *]) rfl ⟨by simp, (((Below.drew HB3.out).setCell (by simp only; omega) _).setCell (by simp only; omega) _).setCell (by simp only; omega) _⟩
end Go.Proofs.YtboidkmnkicoeaaDoor
