/- PackEncodes: the law. -/
import Derived.Test.YtfamomjgjamnoaaDoorLc
namespace Go.Proofs.YtfamomjgjamnoaaDoor
open Go.RowKit Go.Sort

theorem own_below {N n sz : Nat} {T : TypeId} {v : Value} {xs : List Value} {W : World} (h : W.ownsRow N T sz v n xs) : ∀ g, v.ownBlock = some g → g < W.heap.size := fun k hk => (h.lt k hk).2
set_option maxRecDepth 100000 in
set_option maxHeartbeats 8000000 in
theorem packEncodes_any (m : Mo) (w : World) (ht : Tab w) (hm : m.In w) : Calls Tryd.prog 3 #[m.val] w fun e w' => e = .returned (.bool true) ∧ Below w.heap.size w w' := by
  have hb := Below.one (Below.refl _ w) (.cells (moC m) 25)
  have HC := Hid.mk' (copy_any m (w.alloc (.cells (moC m) 25)) (hm.stay hb))
  have HF : Hid (∀ w', Below w.heap.size w w' → Calls Tryd.prog 11 #[] w' fun e w'' => e = .returned (.bool true) ∧ Below w'.heap.size w' w'') := fun w' hb => fixed_any w' (ht.stay hb)
  have HM : Hid (∀ (q : Mo) w', q.er = m.er → q.In w' → Below w.heap.size w w' → Calls Tryd.prog 8 #[q.val] w' fun e w'' => ∃ v, e = .returned (.tuple #[v, fltV (mayZ m)]) ∧ Ob w'.heap.size (encB m) v w'' ∧ Below w'.heap.size w' w'') := fun q w' he hq hb => by
    have := encode_any q w' (ht.stay hb) hq
    unfold EnP at this
    rwa [mayZ_same he, encB_same he] at this
  have HR : Hid (∀ w', Below w.heap.size w w' → Calls Tryd.prog 9 #[m.val] w' fun e w'' => ∃ v, e = .returned (.tuple #[v, fltV (mayZ m)]) ∧ Ob w'.heap.size (encB m) v w'' ∧ Below w'.heap.size w' w'') := fun w' hb => rencode_any m w' (hm.stay hb)
  have HS : Hid (∀ (q : Mo) w', q.er = m.er → q.In w' → Below w.heap.size w w' → Calls Tryd.prog 10 #[q.val, m.val] w' fun e w'' => e = .returned (.bool true) ∧ Below w'.heap.size w' w'') := fun q w' he h hb => by
    have := rsame_any q m w' h (hm.stay hb)
    rwa [samM_same he] at this
  have HQ : Hid (∀ (a b : Value) w', SlB (encB m) a w' → SlB (encB m) b w' → Calls Tryd.prog 12 #[a, b] w' fun e w'' => e = .returned (.bool true) ∧ w'' = w') := fun a b w' h1 h2 => by
    have := equal_any (encB m) (encB m) a b w' h1 h2
    rwa [eqB_refl] at this
  have HX := Hid.mk' (heap_alloc_new w (.cells (moC m) 25))
  have HL := Hid.mk' (encB_len m)
  have HB := Hid.mk' hb
  clear ht hm hb
  generalize mayZ m = z at *
  generalize encB m = t at *
  obtain ⟨z0, z1, z2⟩ := z
  unfold fltV at HM HR
  unfold Mo.val at *
  have x0 := cell_of_obj HX.out (j := 0) (v := .slice m.ta m.ths.length m.tc) rfl
  have x1 := cell_of_obj HX.out (j := 1) (v := .slice m.fa m.funcs.length m.fc) rfl
  go_enter Tryd.func3, Tryd.ntmps3
  go_wp2_with fail
  generalize w.alloc (.cells (moC m) 25) = W0 at *
  refine HC.out.mono ?_
  rintro e W1 ⟨q, rfl, hq, he, hb1⟩
  have hbq := Below.one hb1 (.cells (moC q) 25)
  have bo := Below.one (Below.refl _ W1) (.cells (moC q) 25)
  replace HB := Hid.mk' (Below.on HB.out hbq)
  have HQI := Hid.mk' (hq.stay bo)
  have HY := Hid.mk' (heap_alloc_new W1 (.cells (moC q) 25))
  replace HX := Hid.mk' (blk_stay HX.out hbq)
  have HQE := Hid.mk' he
  have HMQ := Hid.mk' (HM.out q _ he HQI.out HB.out)
  have y0 := cell_of_obj HY.out (j := 0) (v := .slice q.ta q.ths.length q.tc) rfl
  have y1 := cell_of_obj HY.out (j := 1) (v := .slice q.fa q.funcs.length q.fc) rfl
  clear HC hq hb1 hbq he x0 x1 bo
  go_wp2_with fail
  generalize W1.heap.size = XQ at *
  generalize W1.alloc (.cells (moC q) 25) = W2 at *
  refine HMQ.out.mono ?_
  rintro e W3 ⟨v3, rfl, ob3, bb3⟩
  have b4 := Below.one bb3 (.cells #[.int .i64 z0, .int .i64 z1, .int .i64 z2] 30)
  have bo := Below.one (Below.refl _ W3) (.cells #[.int .i64 z0, .int .i64 z1, .int .i64 z2] 30)
  have HF1 := Hid.mk' (heap_alloc_new W3 (.cells #[.int .i64 z0, .int .i64 z1, .int .i64 z2] 30))
  have HO3 := Hid.mk' (own_stay ob3 bo)
  replace HX := Hid.mk' (blk_stay HX.out b4)
  replace HY := Hid.mk' (blk_stay HY.out b4)
  have HB2 := Hid.mk' b4
  have HB0 := Hid.mk' HB.out
  replace HB := Hid.mk' (Below.on HB.out b4)
  have HRR := Hid.mk' (HR.out _ HB.out)
  obtain ⟨a3, c3, rfl⟩ := gown_form ob3
  have x0 := cell_of_obj HX.out (j := 0) (v := .slice m.ta m.ths.length m.tc) rfl
  have x1 := cell_of_obj HX.out (j := 1) (v := .slice m.fa m.funcs.length m.fc) rfl
  clear HMQ ob3 bb3 b4 bo y0 y1 HR
  go_wp2_with fail
  generalize W3.heap.size = F1 at *
  generalize W3.alloc (.cells #[.int .i64 z0, .int .i64 z1, .int .i64 z2] 30) = W4 at *
  refine HRR.out.mono ?_
  rintro e W5 ⟨v5, rfl, ob5, bb5⟩
  have b6 := Below.one bb5 (.cells #[.int .i64 z0, .int .i64 z1, .int .i64 z2] 30)
  have bo := Below.one (Below.refl _ W5) (.cells #[.int .i64 z0, .int .i64 z1, .int .i64 z2] 30)
  have HF2 := Hid.mk' (heap_alloc_new W5 (.cells #[.int .i64 z0, .int .i64 z1, .int .i64 z2] 30))
  have HG4 := Hid.mk' (own_below HO3.out)
  obtain ⟨a5, c5, rfl⟩ := gown_form ob5
  have HEI : Hid (EnI W2 W4.heap.size w.heap.size XQ F1 W5.heap.size m q (z0, z1, z2) t (.slice a5 t.length c5) (W5.alloc (.cells #[.int .i64 z0, .int .i64 z1, .int .i64 z2] 30))) := ⟨HB2.out.trans (b6.mono HB2.out.size), blk_stay HX.out b6, blk_stay HY.out b6, blk_stay HF1.out b6, HF2.out, own_stay ob5 bo⟩
  replace HO3 := Hid.mk' (own_stay HO3.out b6)
  clear HRR ob5 bb5 b6 bo x0 x1 HX HY HF1 HF2 HB2 HB
  have HBI : Hid (∀ W, EnI W2 W4.heap.size w.heap.size XQ F1 W5.heap.size m q (z0, z1, z2) t (.slice a5 t.length c5) W → Below w.heap.size w W) := fun W h => HB0.out.trans (h.b.mono HB0.out.size)
  have HIQ : Hid (∀ W, EnI W2 W4.heap.size w.heap.size XQ F1 W5.heap.size m q (z0, z1, z2) t (.slice a5 t.length c5) W → q.In W) := fun W h => HQI.out.stay h.b
  have HSS := Hid.mk' (HS.out q _ HQE.out (HIQ.out _ HEI.out) (HBI.out _ HEI.out))
  have x0 := cell_of_obj HEI.out.xm (j := 0) (v := .slice m.ta m.ths.length m.tc) rfl
  have x1 := cell_of_obj HEI.out.xm (j := 1) (v := .slice m.fa m.funcs.length m.fc) rfl
  have y0 := cell_of_obj HEI.out.xq (j := 0) (v := .slice q.ta q.ths.length q.tc) rfl
  have y1 := cell_of_obj HEI.out.xq (j := 1) (v := .slice q.fa q.funcs.length q.fc) rfl
  clear HS
  go_wp2_with fail
  generalize W5.alloc (.cells #[.int .i64 z0, .int .i64 z1, .int .i64 z2] 30) = W6 at *
  generalize W5.heap.size = F2 at *
  refine HSS.out.mono ?_
  rintro e W7 ⟨rfl, bb7⟩
  replace HEI := Hid.mk' (HEI.out.stay bb7)
  replace HO3 := Hid.mk' (own_stay HO3.out bb7)
  clear HSS bb7 x0 x1 y0 y1
  go_wp2_with fail
  refine (HF.out _ (HBI.out _ HEI.out)).mono ?_
  rintro e W8 ⟨rfl, bb8⟩
  replace HEI := Hid.mk' (HEI.out.stay bb8)
  replace HO3 := Hid.mk' (own_stay HO3.out bb8)
  clear bb8 HF
  have HQ1 := Hid.mk' (HQ.out _ _ _ (ob_sl HO3.out) (ob_sl HEI.out.c))
  have a0 := cell_of_obj HEI.out.f1 (j := 0) (v := .int .i64 z0) rfl
  have a1 := cell_of_obj HEI.out.f1 (j := 1) (v := .int .i64 z1) rfl
  have a2 := cell_of_obj HEI.out.f1 (j := 2) (v := .int .i64 z2) rfl
  have b0 := cell_of_obj HEI.out.f2 (j := 0) (v := .int .i64 z0) rfl
  have b1 := cell_of_obj HEI.out.f2 (j := 1) (v := .int .i64 z1) rfl
  have b2 := cell_of_obj HEI.out.f2 (j := 2) (v := .int .i64 z2) rfl
  have hg := eqGuard_f
  have hq2 : ∀ w, (Op.equalIn 10000 30 (.agg #[.int .i64 z0, .int .i64 z1, .int .i64 z2]) (.agg #[.int .i64 z0, .int .i64 z1, .int .i64 z2])).run Tryd.prog w = .ok true w := fun w => by rw [equalIn_fl]; simp
  have hu : undef = Value.tuple #[] := rfl
  go_wp2_with (go_at_call 12; refine HQ1.out.mono ?_; rintro e W9 ⟨rfl, rfl⟩)
  clear hu hq2 hg a0 a1 a2 b0 b1 b2 HQ1
  go_loopw [9] (fun t9 wr => ∃ (j : Nat), j ≤ t.length ∧ t9 = .int .i64 j ∧ ∃ l' : Bt, l'.length = t.length ∧ wr.ownsRow W2.heap.size 5 1 (.slice a3 t.length c3) t.length (u8C l') ∧ EnI W2 W4.heap.size w.heap.size XQ F1 F2 m q (z0, z1, z2) t (.slice a5 t.length c5) wr) (fun t9 _ => t.length - (intOf t9).toNat)
  case atStart => exact ⟨0, Nat.zero_le _, rfl, t, rfl, HO3.out, HEI.out⟩
  case round =>
    obtain ⟨j, hj, rfl, l', hl', how, hei⟩ := hrel
    clear HO3 HEI
    by_cases hlt : j < t.length
    · have hli := int_lt hlt
      have htl := HL.out
      obtain ⟨g, cur, hag, hNg, hgb, hgc⟩ := own_blk (N := W2.heap.size) (l := l') (a := a3) (c := c3) (by unfold Ob; rw [hl']; exact how) (i := j) (by omega)
      subst hag
      have hgf := Lib.frozen_of_heap hgb j
      have HW1 := Hid.mk' (own_set1 how j (u8V 9))
      rw [u8_set] at HW1
      have HE1 := Hid.mk' (hei.set hgb hNg (HG4.out g rfl) j (u8V 9))
      have HL1 : Hid ((l'.set j 9).length = t.length) := (by rw [List.length_set]; exact hl' : _ = _)
      generalize l'[j].toNat = bv at *
      clear hgb hei how hl'
      go_wp2_with fail
      go_roundw
      case rel => exact ⟨j + 1, nat_lt hli, by go_num, _, HL1.out, HW1.out, HE1.out⟩
      case measure => simp [intOf]; first | exact meas hli | omega
    · have hje := nat_eq hj hlt
      have hNr := hei.b.size
      have bo := Below.one (Below.refl _ wr) (.cells #[.int .u8 7] 5)
      have hOl : Ob W2.heap.size l' (.slice a3 t.length c3) wr := by unfold Ob; rw [hl']; exact how
      have HAP : Hid (∃ v' W', (Builtin.append_ #[27, 27] 27 #[.slice a3 t.length c3, .slice (some ⟨wr.heap.size, 0, none⟩) 1 1]).run Tryd.prog (wr.alloc (.cells #[.int .u8 7] 5)) = .ok v' W' ∧ EnI W2 W4.heap.size w.heap.size XQ F1 F2 m q (z0, z1, z2) t (.slice a5 t.length c5) W') := by
        obtain ⟨v', W', h1, h2, h3, h4⟩ := ob_grow (l := [7]) (own_stay hOl bo) (by have := HL.out; rw [hl']; simp; omega) (by simp; omega) 27 (some ⟨wr.heap.size, 0, none⟩) 1 (by simp) (fun a' e => by cases e; exact newsT wr 5 [u8V 7])
        exact ⟨v', W', h1, (hei.stay bo).grown h3 HG4.out h4⟩
      clear hei hOl how hl' hje bo
      go_upto_region 12 with (at_builtin; refine wpl_app rfl _ _ 27 27 _ _ rfl rfl rfl HAP.out ?_; rintro v9 W9 hei9)
      have HEI := Hid.mk' hei9
      have HMQ := Hid.mk' (HM.out q _ HQE.out (HIQ.out _ hei9) (HBI.out _ hei9))
      have y0 := cell_of_obj hei9.xq (j := 0) (v := .slice q.ta q.ths.length q.tc) rfl
      have y1 := cell_of_obj hei9.xq (j := 1) (v := .slice q.fa q.funcs.length q.fc) rfl
      clear HAP hei9 HM
      go_wp2_with fail
      refine HMQ.out.mono ?_
      rintro e WA ⟨vA, rfl, obA, bbA⟩
      have bo := Below.one (Below.refl _ WA) (.cells #[.int .i64 z0, .int .i64 z1, .int .i64 z2] 30)
      have HF3 := Hid.mk' (heap_alloc_new WA (.cells #[.int .i64 z0, .int .i64 z1, .int .i64 z2] 30))
      replace HEI := Hid.mk' (HEI.out.stay (Below.one bbA (.cells #[.int .i64 z0, .int .i64 z1, .int .i64 z2] 30)))
      have HQ1 := Hid.mk' (HQ.out _ _ _ (ob_sl (own_stay obA bo)) (ob_sl HEI.out.c))
      obtain ⟨aA, cA, rfl⟩ := gown_form obA
      have a0 := cell_of_obj HF3.out (j := 0) (v := .int .i64 z0) rfl
      have a1 := cell_of_obj HF3.out (j := 1) (v := .int .i64 z1) rfl
      have a2 := cell_of_obj HF3.out (j := 2) (v := .int .i64 z2) rfl
      have b0 := cell_of_obj HEI.out.f2 (j := 0) (v := .int .i64 z0) rfl
      have b1 := cell_of_obj HEI.out.f2 (j := 1) (v := .int .i64 z1) rfl
      have b2 := cell_of_obj HEI.out.f2 (j := 2) (v := .int .i64 z2) rfl
      have hg := eqGuard_f
      have hq2 : ∀ w, (Op.equalIn 10000 30 (.agg #[.int .i64 z0, .int .i64 z1, .int .i64 z2]) (.agg #[.int .i64 z0, .int .i64 z1, .int .i64 z2])).run Tryd.prog w = .ok true w := fun w => by rw [equalIn_fl]; simp
      clear HMQ obA bbA bo y0 y1
      go_wp2_with (go_at_call 12; refine HQ1.out.mono ?_; rintro e WB ⟨rfl, rfl⟩)
      go_ret
      exact ⟨rfl, HBI.out _ HEI.out⟩
end Go.Proofs.YtfamomjgjamnoaaDoor
