/- The law's own small questions: which bytes are the same; the one that is asked first. -/
import Derived.Test.YtfamomjgjamnoaaDoorLa
import Derived.Test.YtfamomjgjamnoaaDoorKf
import Derived.Test.YtfamomjgjamnoaaDoorDf
namespace Go.Proofs.YtfamomjgjamnoaaDoor
open Go.RowKit Go.Sort

theorem u8C_flat (l : Bt) : u8C l = l.flatMap bC := by
  induction l with
  | nil => rfl
  | cons x r ih => rw [List.flatMap_cons, ← ih]; rfl
theorem ob_dec {N : Nat} {l : Bt} {v : Value} {W : World} (h : Ob N l v W) : ∃ va vc, v = .slice va l.length vc ∧ RowIn W va 1 (l.map bC) ∧ (∀ a, va = some a → a.block < W.heap.size) ∧ l.length ≤ vc := by
  obtain ⟨a, c, rfl⟩ := gown_form h
  refine ⟨a, c, rfl, ?_, ?_, ?_⟩
  · have h' := h
    unfold Ob at h'
    rw [u8C_flat] at h'
    exact own_row h' (fun _ => rfl) (by omega)
  · intro ad e
    subst e
    rcases h.2 with ⟨e, _⟩ | ⟨g, cap, cur, e, h1, h2, h3⟩
    · cases e
    · cases e
      exact (Array.getElem?_eq_some_iff.1 h2).1
  · rcases h.2 with ⟨e, h0⟩ | ⟨g, cap, cur, e, h1, h2, h3, _⟩
    · omega
    · injection e with _ _ e
      subst e; exact h3
theorem ob_sl {N : Nat} {l : Bt} {v : Value} {W : World} (h : Ob N l v W) : SlB l v W := by
  obtain ⟨va, vc, e, hr, _⟩ := ob_dec h
  exact ⟨va, vc, e, hr⟩
theorem SlB.stay {l : Bt} {v : Value} {W W' : World} (h : SlB l v W) (hb : Below W.heap.size W W') : SlB l v W' := by
  obtain ⟨a, c, e, hr⟩ := h
  exact ⟨a, c, e, hr.below hb⟩
def eqB (a b : Bt) : Bool := (tb a).toList == (tb b).toList
theorem eqB_refl (a : Bt) : eqB a a = true := by simp [eqB]
set_option maxRecDepth 100000 in
theorem equal_any (a b : Bt) (va vb : Value) (w : World) (ha : SlB a va w) (hb : SlB b vb w) : Calls Tryd.prog 12 #[va, vb] w fun e w' => e = .returned (.bool (eqB a b)) ∧ w' = w := by
  have h1 := slB_text ha
  have h2 := slB_text hb
  clear ha hb
  unfold eqB
  generalize tb a = s at *
  generalize tb b = t at *
  go_enter Tryd.func12, Tryd.ntmps12
  go_wp2_with fail
  go_ret
  exact ⟨rfl, rfl⟩
def mF (h : Nat) : Mo := ⟨some ⟨h, 0, none⟩, 1, [-2], none, 0, []⟩
def bF : Bt := [83, 70, 84, 1, 1, 254, 255, 255, 255, 255, 255, 255, 255, 0]
def bG : Bt := [83, 70, 85]
theorem mF_may (h : Nat) : mayZ (mF h) = (0, 0, 0) := by
  rw [← mayZ_er]
  show mayZ ⟨none, 0, [-2], none, 0, []⟩ = _
  decide
theorem mF_enc (h : Nat) : encB (mF h) = bF := by
  unfold encB
  rw [mF_may, if_pos rfl]
  show sigB ++ w1B 1 ++ [-2].flatMap w8B ++ w1B 0 ++ [].flatMap fnB = bF
  decide
theorem bF_dec {q : Mo} {e p : Int} (h : DecR bF q e p) : q.er = (mF 0).er ∧ e = 0 ∧ p = 0 := by
  have hz : decZ bF = .ok ⟨none, 0, [-2], none, 0, []⟩ := by kernel_rfl
  unfold DecR at h
  rw [hz] at h
  exact h
theorem bG_dec {q : Mo} {e p : Int} (h : DecR bG q e p) : q = mo0 ∧ e = 5 ∧ p = 2 := by
  have hz : decZ bG = .error (5, 2) := by kernel_rfl
  unfold DecR at h
  rw [hz] at h
  exact ⟨h.1, h.2.1, h.2.2.1⟩
theorem ob_newB (W : World) : Ob W.heap.size bG (.slice (some ⟨W.heap.size, 0, none⟩) 3 3) (W.alloc (.cells #[.int .u8 83, .int .u8 70, .int .u8 85] 5)) :=
  ⟨rfl, .inr ⟨W.heap.size, 3, _, rfl, Nat.le_refl _, heap_alloc_new W _, Nat.le_refl _, by unfold maxLen; omega, rfl, rfl⟩⟩
theorem equalIn_fl (a b c a' b' c' : Int) (w : World) : (Op.equalIn 10000 30 (.agg #[.int .i64 a, .int .i64 b, .int .i64 c]) (.agg #[.int .i64 a', .int .i64 b', .int .i64 c'])).run Tryd.prog w = .ok (a == a' && (b == b' && c == c')) w := by
  have u3 := Tryd.underlying3
  have a3 := Tryd.isAgg3
  have z3 := Tryd.sizeOf3
  have u31 := Tryd.underlying28
  have a31 := Tryd.isAgg28
  have z31 := Tryd.sizeOf28
  have hS : Tryd.prog.underlying 30 = some (.struct (Tryd.prog.fieldsOf 30)) := by kernel_rfl
  have hp : Tryd.prog.stoodInHeld 30 = false := by kernel_rfl
  rw [show (10000 : Nat) = 9999 + 1 from rfl, run_equalIn_agg w 9999 30 _ _ hS hp]
  simp only [Program.fieldsOf, Tryd.underlying30]
  go_simp
  by_cases h1 : a = a' <;> by_cases h2 : b = b' <;> by_cases h3 : c = c' <;> simp [h1, h2, h3]
theorem eqGuard_f (w : World) (op : BinOp) (a b : Operand) (xs ys : Array Value) : (eqGuard op 30 a b (.agg xs) (.agg ys)).run Tryd.prog w = .ok () w := run_eqGuard_agg w op 30 a b xs ys (by kernel_rfl)
theorem mF_in {W : World} {h : Nat} (hh : W.heap[h]? = some (.cells #[.int .i64 (-2)] 2)) : (mF h).In W := by
  refine ⟨⟨(by decide : 1 * 8 ≤ 140737488351232), fun i cs hi => ?_⟩, fun z hz => ?_, ⟨(by decide : 0 * 80 ≤ 140737488351232), fun i cs hi => by simp [mF] at hi⟩, fun f hf => by cases hf⟩
  · match i, hi with
    | 0, hi =>
      cases hi
      refine ⟨h, 0, rfl, fun j v hj => ?_⟩
      match j, hj with
      | 0, hj => cases hj; exact cell_of_obj hh rfl
    | i + 1, hi => simp [mF] at hi
  · simp [mF] at hz; subst hz; unfold I64; omega
theorem eqF : (({ data := #[83, 70, 84, 1, 1, 254, 255, 255, 255, 255, 255, 255, 255, 0] } : ByteArray).toList == ({ data := #[83, 70, 84, 1, 1, 254, 255, 255, 255, 255, 255, 255, 255, 0] } : ByteArray).toList) = true := by simp
set_option maxRecDepth 100000 in
set_option maxHeartbeats 4000000 in
theorem fixed_any (w : World) (ht : Tab w) : Calls Tryd.prog 11 #[] w fun e w' => e = .returned (.bool true) ∧ Below w.heap.size w w' := by
  have b0 := Below.one (Below.refl _ w) (.cells #[.int .i64 (-2)] 2)
  have b1 := Below.one b0 (.cells #[.slice (some ⟨w.heap.size, 0, none⟩) 1 1, .slice none 0 0] 25)
  have xt := blk_stay (heap_alloc_new w (.cells #[.int .i64 (-2)] 2)) (Below.one (Below.refl _ _) (.cells #[.slice (some ⟨w.heap.size, 0, none⟩) 1 1, .slice none 0 0] 25))
  have xm := heap_alloc_new (w.alloc (.cells #[.int .i64 (-2)] 2)) (.cells #[.slice (some ⟨w.heap.size, 0, none⟩) 1 1, .slice none 0 0] 25)
  rw [World.size_alloc] at xm
  have HEN := Hid.mk' (encode_any (mF w.heap.size) _ (ht.stay b1) (mF_in xt))
  have HT := Hid.mk' xt
  have HXM := Hid.mk' xm
  have HB := Hid.mk' b1
  have x0 := cell_of_obj xm (j := 0) (v := .slice (some ⟨w.heap.size, 0, none⟩) 1 1) rfl
  have x1 := cell_of_obj xm (j := 1) (v := .slice none 0 0) rfl
  unfold EnP at HEN
  rw [mF_may, mF_enc] at HEN
  unfold fltV Mo.val mF at HEN
  clear ht b0 b1 xt xm
  go_enter Tryd.func11, Tryd.ntmps11
  go_wp2_with fail
  generalize (w.alloc (.cells #[.int .i64 (-2)] 2)).alloc (.cells #[.slice (some ⟨w.heap.size, 0, none⟩) 1 1, .slice none 0 0] 25) = W0 at *
  refine HEN.out.mono ?_
  rintro e W1 ⟨v1, rfl, ob1, bb1⟩
  have b2 := Below.one bb1 (.cells #[.int .i64 0, .int .i64 0, .int .i64 0] 30)
  have bo := Below.one (Below.refl _ W1) (.cells #[.int .i64 0, .int .i64 0, .int .i64 0] 30)
  have HF := Hid.mk' (heap_alloc_new W1 (.cells #[.int .i64 0, .int .i64 0, .int .i64 0] 30))
  obtain ⟨va, vc, rfl, hr, hv, hc⟩ := ob_dec (own_stay ob1 bo)
  have HSL := Hid.mk' (show SlB bF (.slice va bF.length vc) _ from ⟨va, vc, rfl, hr⟩)
  have HD1 := Hid.mk' (decode_any bF va vc _ hr hv hc)
  replace HB := Hid.mk' (Below.on HB.out b2)
  replace HT := Hid.mk' (blk_stay HT.out b2)
  replace HXM := Hid.mk' (blk_stay HXM.out b2)
  clear HEN ob1 bb1 b2 bo hr hv hc x0 x1
  go_wp2_with fail
  generalize W1.heap.size = G1 at *
  generalize W1.alloc (.cells #[.int .i64 0, .int .i64 0, .int .i64 0] 30) = W2 at *
  refine HD1.out.mono ?_
  rintro e W3 ⟨q, e1, e2, rfl, hdq, om, bb3⟩
  obtain ⟨hqe, rfl, rfl⟩ := bF_dec hdq
  have b4 := Below.one bb3 (.cells #[.slice q.ta q.ths.length q.tc, .slice q.fa q.funcs.length q.fc] 25)
  have bo := Below.one (Below.refl _ W3) (.cells #[.slice q.ta q.ths.length q.tc, .slice q.fa q.funcs.length q.fc] 25)
  have HXQ := Hid.mk' (heap_alloc_new W3 (.cells #[.slice q.ta q.ths.length q.tc, .slice q.fa q.funcs.length q.fc] 25))
  have HQ := Hid.mk' (om.stay bo).in
  have HQE := Hid.mk' hqe
  replace HB := Hid.mk' (Below.on HB.out b4)
  replace HT := Hid.mk' (blk_stay HT.out b4)
  replace HXM := Hid.mk' (blk_stay HXM.out b4)
  replace HF := Hid.mk' (blk_stay HF.out b4)
  replace HSL := Hid.mk' (HSL.out.stay b4)
  clear HD1 hdq om bb3 b4 bo hqe
  unfold Mo.val
  go_upto_region 4 with fail
  generalize W3.heap.size = G3 at *
  generalize W3.alloc (.cells #[.slice q.ta q.ths.length q.tc, .slice q.fa q.funcs.length q.fc] 25) = W4 at *
  have bo := Below.one (Below.refl _ W4) (.cells #[.int .u8 83, .int .u8 70, .int .u8 85] 5)
  obtain ⟨ga, gc, hge, gr, gv, gcp⟩ := ob_dec (ob_newB W4)
  have hg3 : bG.length = 3 := rfl
  have HD2 := Hid.mk' (decode_any bG ga gc _ gr gv gcp)
  rw [← hge] at HD2
  replace HB := Hid.mk' (Below.on HB.out bo)
  replace HT := Hid.mk' (blk_stay HT.out bo)
  replace HXM := Hid.mk' (blk_stay HXM.out bo)
  replace HF := Hid.mk' (blk_stay HF.out bo)
  replace HSL := Hid.mk' (HSL.out.stay bo)
  replace HXQ := Hid.mk' (blk_stay HXQ.out bo)
  replace HQ := Hid.mk' (HQ.out.stay bo)
  clear bo gr gv gcp hge hg3
  go_wp2_with fail
  generalize W4.alloc (.cells #[.int .u8 83, .int .u8 70, .int .u8 85] 5) = W5 at *
  refine HD2.out.mono ?_
  rintro e W6 ⟨q6, f1, f2, rfl, hdq, om, bb6⟩
  obtain ⟨rfl, rfl, rfl⟩ := bG_dec hdq
  have b7 := Below.one bb6 (.cells #[.slice none 0 0, .slice none 0 0] 25)
  replace HB := Hid.mk' (Below.on HB.out b7)
  replace HXM := Hid.mk' (blk_stay HXM.out b7)
  replace HF := Hid.mk' (blk_stay HF.out b7)
  replace HSL := Hid.mk' (HSL.out.stay b7)
  replace HXQ := Hid.mk' (blk_stay HXQ.out b7)
  have HS := Hid.mk' (rsame_any (mF w.heap.size) q _ (mF_in (blk_stay HT.out b7)) (HQ.out.stay b7))
  rw [samM_same (show (mF w.heap.size).er = q.er from HQE.out.symm)] at HS
  clear HD2 hdq om bb6 b7 HT HQ HQE
  unfold Mo.val mF at HS
  have x0 := cell_of_obj HXM.out (j := 0) (v := .slice (some ⟨w.heap.size, 0, none⟩) 1 1) rfl
  have x1 := cell_of_obj HXM.out (j := 1) (v := .slice none 0 0) rfl
  have y0 := cell_of_obj HXQ.out (j := 0) (v := .slice q.ta q.ths.length q.tc) rfl
  have y1 := cell_of_obj HXQ.out (j := 1) (v := .slice q.fa q.funcs.length q.fc) rfl
  unfold Mo.val mo0
  go_wp2_with fail
  generalize W6.alloc (.cells #[.slice none 0 0, .slice none 0 0] 25) = W7 at *
  refine HS.out.mono ?_
  rintro e W8 ⟨rfl, bb8⟩
  replace HB := Hid.mk' (Below.on HB.out bb8)
  replace HF := Hid.mk' (blk_stay HF.out bb8)
  have htx := slB_text (HSL.out.stay bb8)
  have z0 := cell_of_obj HF.out (j := 0) (v := .int .i64 0) rfl
  have z1 := cell_of_obj HF.out (j := 1) (v := .int .i64 0) rfl
  have z2 := cell_of_obj HF.out (j := 2) (v := .int .i64 0) rfl
  have hg := eqGuard_f
  have hq2 : ∀ w, (Op.equalIn 10000 30 (.agg #[.int .i64 0, .int .i64 0, .int .i64 0]) (.agg #[.int .i64 0, .int .i64 0, .int .i64 0])).run Tryd.prog w = .ok true w := fun w => by rw [equalIn_fl]; simp
  have htb : tb bF = { data := #[83, 70, 84, 1, 1, 254, 255, 255, 255, 255, 255, 255, 255, 0] } := rfl
  rw [htb] at htx
  have hef := eqF
  clear bb8 HS HSL HXM HXQ x0 x1 y0 y1 htb
  go_wp2_with fail
  go_ret
  exact ⟨rfl, HB.out⟩
end Go.Proofs.YtfamomjgjamnoaaDoor
