/- CodeMay. -/
import Derived.Test.YtlkoigdnakmdlaaDoorFb
import Derived.Test.YtlkoigdnakmdlaaDoorEd
import Derived.Test.YtlkoigdnakmdlaaDoorEe
import Derived.Test.YtlkoigdnakmdlaaDoorDf
namespace Go.Proofs.YtlkoigdnakmdlaaDoor
open Go.RowKit Go.Sort

set_option maxRecDepth 100000 in
set_option maxHeartbeats 4000000 in
theorem codeMay_any (m : Mo) (w : World) (ht : Tab w) (hm : m.In w) : Calls Tryd.prog 5 #[m.val] w fun e w' => e = .returned (.bool true) ∧ Below w.heap.size w w' := by
  have hb := Below.one (Below.refl _ w) (oM m)
  have HC := Hid.mk' (copy_any m (w.alloc (oM m)) (hm.stay hb))
  have HF : Hid (∀ w', Below w.heap.size w w' → Calls Tryd.prog 9 #[] w' fun e w'' => e = .returned (.bool true) ∧ Below w'.heap.size w' w'') := fun w' hb => fixed_any w' (ht.stay hb)
  have HM : Hid (∀ (q : Mo) w', q.In w' → Below w.heap.size w w' → Calls Tryd.prog 20 #[q.val] w' fun e w'' => e = .returned (fltV (mayZ q)) ∧ Below w'.heap.size w' w'') := fun q w' h hb => may_any q w' (ht.stay hb) h
  have HR : Hid (∀ w', Below w.heap.size w w' → Calls Tryd.prog 22 #[m.val] w' fun e w'' => e = .returned (fltV (mayZ m)) ∧ Below w'.heap.size w' w'') := fun w' hb => rmay_any m w' (hm.stay hb)
  have HS : Hid (∀ (q : Mo) w', q.In w' → Below w.heap.size w w' → Calls Tryd.prog 21 #[q.val, m.val] w' fun e w'' => e = .returned (.bool (samM q m)) ∧ Below w'.heap.size w' w'') := fun q w' h hb => rsame_any q m w' h (hm.stay hb)
  have HE : Hid (∀ q : Mo, q.er = m.er → mayZ q = mayZ m ∧ samM q m = true) := fun q h => ⟨mayZ_same h, samM_same h⟩
  have x0 := new_cell w #[.slice m.ta m.ths.length m.tc, .slice m.fa m.funcs.length m.fc] 33 0 (.slice m.ta m.ths.length m.tc) rfl
  have x1 := new_cell w #[.slice m.ta m.ths.length m.tc, .slice m.fa m.funcs.length m.fc] 33 1 (.slice m.fa m.funcs.length m.fc) rfl
  clear ht hm
  generalize mayZ m = z at *
  obtain ⟨z0, z1, z2⟩ := z
  unfold fltV at HM HR
  unfold Mo.val at *
  go_enter Tryd.func5, Tryd.ntmps5
  go_wp2_with fail
  refine HC.out.mono ?_
  rintro e w1 ⟨q, rfl, hq, he, hb1⟩
  obtain ⟨hz, hs⟩ := HE.out q he
  have B1 := Below.one (Below.on hb hb1) (.cells #[.slice q.ta q.ths.length q.tc, .slice q.fa q.funcs.length q.fc] 33)
  have Q1 := hq.stay (Below.one (Below.refl _ w1) (.cells #[.slice q.ta q.ths.length q.tc, .slice q.fa q.funcs.length q.fc] 33))
  have y0 := new_cell w1 #[.slice q.ta q.ths.length q.tc, .slice q.fa q.funcs.length q.fc] 33 0 (.slice q.ta q.ths.length q.tc) rfl
  have y1 := new_cell w1 #[.slice q.ta q.ths.length q.tc, .slice q.fa q.funcs.length q.fc] 33 1 (.slice q.fa q.funcs.length q.fc) rfl
  have hbq := Below.one hb1 (.cells #[.slice q.ta q.ths.length q.tc, .slice q.fa q.funcs.length q.fc] 33)
  replace x0 := cell_kept_below x0 hbq
  replace x1 := cell_kept_below x1 hbq
  have HMq := HM.out q _ Q1 B1
  rw [hz] at HMq
  have HMQ := Hid.mk' HMq
  clear HMq HC HM HE hq hb1 hbq hb he hz
  have HSs := Hid.mk' hs
  clear hs
  go_wp2_with fail
  generalize hG : w1.heap.size = G at *
  generalize w1.alloc (.cells #[.slice q.ta q.ths.length q.tc, .slice q.fa q.funcs.length q.fc] 33) = W1 at *
  clear hG
  refine HMQ.out.mono ?_
  rintro e w2 ⟨rfl, hb2⟩
  have hb3 := Below.one hb2 (.cells #[.int .i64 z0, .int .i64 z1, .int .i64 z2] 37)
  replace x0 := cell_kept_below x0 hb3
  replace x1 := cell_kept_below x1 hb3
  replace y0 := cell_kept_below y0 hb3
  replace y1 := cell_kept_below y1 hb3
  have F := FAt.new w2 (z0, z1, z2)
  have B3 := Below.on B1 hb3
  have HSq := HS.out q _ (Q1.stay hb3) B3
  rw [HSs.out] at HSq
  have HSQ := Hid.mk' HSq
  clear HSq HS HSs Q1 B1 hb2 hb3 HMQ
  go_wp2_with fail
  generalize hG2 : w2.heap.size = G2 at *
  generalize w2.alloc (.cells #[.int .i64 z0, .int .i64 z1, .int .i64 z2] 37) = W2 at *
  clear hG2
  refine HSQ.out.mono ?_
  rintro e w4 ⟨rfl, hb4⟩
  replace x0 := cell_kept_below x0 hb4
  replace x1 := cell_kept_below x1 hb4
  replace F := F.stay hb4
  have B4 := Below.on B3 hb4
  have f0 := fun d os => cell_regrown F.c0 d os
  have f1 := fun d os => cell_regrown F.c1 d os
  have f2 := fun d os => cell_regrown F.c2 d os
  simp only at f0 f1 f2
  replace x0 := fun d os => cell_regrown x0 d os
  replace x1 := fun d os => cell_regrown x1 d os
  have hbg := Hid.mk' fun d os => Below.on B4 (below_regrown w4 d os)
  clear y0 y1 hb4 B3 F HSQ B4
  have hg := eqGuard_f
  have hq2 : ∀ w, (Op.equalIn 10000 37 (.agg #[.int .i64 z0, .int .i64 z1, .int .i64 z2]) (.agg #[.int .i64 z0, .int .i64 z1, .int .i64 z2])).run Tryd.prog w = .ok true w := fun w => by rw [equalIn_fl]; simp
  go_wp2_with fail
  refine wp_region_quiet_below (by kernel_rfl) (by kernel_rfl) ?_
  repeat (go_big_quiet_step (first | (go_at_call 9; with_reducible exact Calls.regrown_of (HF.out _ (hbg.out _ _))) | (go_at_call 22; with_reducible exact Calls.regrown_of (HR.out _ (hbg.out _ _)))))
  refine wpQuiet_nil ?_
  rintro _ ⟨⟨dq, osq⟩, rfl⟩
  clear x0 x1 f0 f1 f2 hg hq2
  go_wp2_with fail
  go_ret
  exact ⟨rfl, hbg.out _ _⟩
end Go.Proofs.YtlkoigdnakmdlaaDoor
