/- PackDecodes: the law. -/
import Derived.Test.YtfamomjgjamnoaaDoorLf
import Derived.Test.YtfamomjgjamnoaaDoorJn
namespace Go.Proofs.YtfamomjgjamnoaaDoor
open Go.RowKit Go.Sort

theorem decR_same {bs : Bt} {q q' : Mo} {e p e' p' : Int} (h : DecR bs q e p) (h' : DecR bs q' e' p') : e = e' ∧ p = p' ∧ samM q q' = true := by
  unfold DecR at h h'
  cases hd : decZ bs with
  | error ep =>
    rw [hd] at h h'
    obtain ⟨rfl, rfl, rfl, _⟩ := h
    obtain ⟨rfl, rfl, rfl, _⟩ := h'
    exact ⟨rfl, rfl, samM_same rfl⟩
  | ok m =>
    rw [hd] at h h'
    obtain ⟨h1, rfl, rfl⟩ := h
    obtain ⟨h2, rfl, rfl⟩ := h'
    exact ⟨rfl, rfl, samM_same (h1.trans h2.symm)⟩
theorem own_b_set {W : World} {N : Nat} {q : Mo} {g : Nat} {cs : Array Value} {fz : Nat × Nat} (h : OwnM W N q) (hg : W.heap[g]? = some (.cells cs 5 fz)) (j : Nat) (u : Value) : OwnM (W.setCell ⟨g, j, none⟩ u) N q :=
  h.put hg (by decide) (by decide) (by decide) (by decide) (fun k hk => Below.heap_setCell _ _ _ _ (by simpa using hk))
/-- What the law holds while it writes over its bytes. -/
structure DeI (w : World) (N XM XN : Nat) (q q' : Mo) (W : World) : Prop where
  b : Below w.heap.size w W
  xm : W.heap[XM]? = some (.cells (moC q) 25)
  xn : W.heap[XN]? = some (.cells (moC q') 25)
  m : OwnM W N q
  n : OwnM W N q'
theorem DeI.stay {w : World} {N XM XN : Nat} {q q' : Mo} {W W' : World} (h : DeI w N XM XN q q' W) (hb : Below W.heap.size W W') : DeI w N XM XN q q' W' :=
  ⟨h.b.trans (hb.mono h.b.size), blk_stay h.xm hb, blk_stay h.xn hb, h.m.stay hb, h.n.stay hb⟩
theorem DeI.set {w : World} {N XM XN : Nat} {q q' : Mo} {W : World} (h : DeI w N XM XN q q' W) {g : Nat} {cs : Array Value} {fz : Nat × Nat} (hg : W.heap[g]? = some (.cells cs 5 fz)) (hN : w.heap.size ≤ g) (j : Nat) (u : Value) : DeI w N XM XN q q' (W.setCell ⟨g, j, none⟩ u) := by
  have k := (Gr.refl w.heap.size W).set hg hN j u
  exact ⟨h.b.trans k.b, k.o _ _ _ _ h.xm (by decide), k.o _ _ _ _ h.xn (by decide), own_b_set h.m hg j u, own_b_set h.n hg j u⟩
set_option maxRecDepth 100000 in
set_option maxHeartbeats 8000000 in
theorem packDecodes_any (bs : Bt) (va : Option Addr) (vc : Nat) (w : World) (ht : Tab w) (hy : Bys w bs va vc) : Calls Tryd.prog 4 #[.slice va bs.length vc] w fun e w' => e = .returned (.bool true) ∧ Below w.heap.size w w' := by
  have HF : Hid (∀ w', Below w.heap.size w w' → Calls Tryd.prog 11 #[] w' fun e w'' => e = .returned (.bool true) ∧ Below w'.heap.size w' w'') := fun w' hb => fixed_any w' (ht.stay hb)
  have HS : Hid (∀ (q q' : Mo) w', samM q q' = true → q.In w' → q'.In w' → Calls Tryd.prog 10 #[q.val, q'.val] w' fun e w'' => e = .returned (.bool true) ∧ Below w'.heap.size w' w'') := fun q q' w' he h h' => by
    have := rsame_any q q' w' h h'
    rwa [he] at this
  have HD : Hid (∀ w', Below w.heap.size w w' → Calls Tryd.prog 14 #[.slice va bs.length vc] w' (DeP bs w')) := fun w' hb => rdec_any bs va vc w' (hy.stay hb).r (hy.stay hb).b hy.c
  have HSB : Hid (∀ w', Below w.heap.size w w' → SlB bs (.slice va bs.length vc) w') := fun w' hb => ⟨va, vc, rfl, (hy.stay hb).r⟩
  have HQ : Hid (∀ (a b : Value) w', SlB bs a w' → SlB bs b w' → Calls Tryd.prog 12 #[a, b] w' fun e w'' => e = .returned (.bool true) ∧ w'' = w') := fun a b w' h1 h2 => by
    have := equal_any bs bs a b w' h1 h2
    rwa [eqB_refl] at this
  have HLB := Hid.mk' hy.l
  have HAP : Hid (∃ v' W', (Builtin.append_ #[27, 27] 27 #[.slice (some ⟨w.heap.size, 0, none⟩) 0 0, .slice va bs.length vc]).run Tryd.prog (w.alloc (.cells #[] 5)) = .ok v' W' ∧ (Ob w.heap.size bs v' W' ∧ Below w.heap.size w W')) := by
    have bo := Below.one (Below.refl _ w) (.cells #[] 5)
    obtain ⟨v', W', h1, h2, h3⟩ := ob_put (vc := vc) (ob_new (N := w.heap.size) (W := w) [] (Nat.le_refl _) (by simp)) (by simp) (hy.stay bo).r (by have := hy.l; simp; omega) 27
    exact ⟨v', W', h1, h2, bo.trans h3.b⟩
  clear ht hy
  go_enter Tryd.func4, Tryd.ntmps4
  go_upto_region 2 with (at_builtin; refine wpl_app rfl _ _ 27 27 _ _ rfl rfl rfl HAP.out ?_; rintro v1 W1 ⟨ob1, bb1⟩)
  obtain ⟨a1, c1, rfl, hr, hv, hc⟩ := ob_dec ob1
  have HD1 := Hid.mk' (decode_any bs a1 c1 _ hr hv hc)
  have HB := Hid.mk' bb1
  have HO := Hid.mk' ob1
  clear HAP hr hv hc ob1 bb1
  go_wp2_with fail
  refine HD1.out.mono ?_
  rintro e W2 ⟨q, e1, p1, rfl, hdq, om, bb2⟩
  have b3 := Below.one bb2 (.cells #[.slice q.ta q.ths.length q.tc, .slice q.fa q.funcs.length q.fc] 25)
  have bo := Below.one (Below.refl _ W2) (.cells #[.slice q.ta q.ths.length q.tc, .slice q.fa q.funcs.length q.fc] 25)
  have HXQ := Hid.mk' (heap_alloc_new W2 (.cells #[.slice q.ta q.ths.length q.tc, .slice q.fa q.funcs.length q.fc] 25))
  have HOM := Hid.mk' ((om.low (N' := w.heap.size) HB.out.size).stay bo)
  have HDQ := Hid.mk' hdq
  replace HO := Hid.mk' (own_stay HO.out b3)
  replace HB := Hid.mk' (HB.out.trans (b3.mono HB.out.size))
  have HDR := Hid.mk' (HD.out _ HB.out)
  clear HD1 hdq om bb2 b3 bo HD
  unfold Mo.val
  go_wp2_with fail
  generalize W2.heap.size = XM at *
  generalize W2.alloc (.cells #[.slice q.ta q.ths.length q.tc, .slice q.fa q.funcs.length q.fc] 25) = W3 at *
  refine HDR.out.mono ?_
  rintro e W4 ⟨q', e2, p2, rfl, hdq', om', bb4⟩
  obtain ⟨rfl, rfl, hsam⟩ := decR_same HDQ.out hdq'
  have b5 := Below.one bb4 (.cells #[.slice q'.ta q'.ths.length q'.tc, .slice q'.fa q'.funcs.length q'.fc] 25)
  have bo := Below.one (Below.refl _ W4) (.cells #[.slice q'.ta q'.ths.length q'.tc, .slice q'.fa q'.funcs.length q'.fc] 25)
  have HEI : Hid (DeI w w.heap.size XM W4.heap.size q q' (W4.alloc (.cells #[.slice q'.ta q'.ths.length q'.tc, .slice q'.fa q'.funcs.length q'.fc] 25))) := ⟨HB.out.trans (b5.mono HB.out.size), blk_stay HXQ.out b5, heap_alloc_new W4 _, HOM.out.stay b5, (om'.low (N' := w.heap.size) HB.out.size).stay bo⟩
  replace HO := Hid.mk' (own_stay HO.out b5)
  have HSM := Hid.mk' hsam
  clear HDR hdq' om' bb4 b5 bo HDQ HOM HXQ HB hsam
  unfold Mo.val
  go_wp2_with fail
  generalize W4.heap.size = XN at *
  generalize W4.alloc (.cells #[.slice q'.ta q'.ths.length q'.tc, .slice q'.fa q'.funcs.length q'.fc] 25) = W5 at *
  refine (HF.out _ HEI.out.b).mono ?_
  rintro e W6 ⟨rfl, bb6⟩
  replace HEI := Hid.mk' (HEI.out.stay bb6)
  replace HO := Hid.mk' (own_stay HO.out bb6)
  have HQ1 := Hid.mk' (HQ.out _ _ _ (ob_sl HO.out) (HSB.out _ HEI.out.b))
  clear bb6 HF HQ HSB
  have hu : undef = Value.tuple #[] := rfl
  go_wp2_with (go_at_call 12; refine HQ1.out.mono ?_; rintro e W7 ⟨rfl, rfl⟩)
  clear hu HQ1
  go_loopw [10] (fun t10 wr => ∃ (j : Nat), j ≤ bs.length ∧ t10 = .int .i64 j ∧ ∃ l' : Bt, l'.length = bs.length ∧ wr.ownsRow w.heap.size 5 1 (.slice a1 bs.length c1) bs.length (u8C l') ∧ DeI w w.heap.size XM XN q q' wr) (fun t10 _ => bs.length - (intOf t10).toNat)
  case atStart => exact ⟨0, Nat.zero_le _, rfl, bs, rfl, HO.out, HEI.out⟩
  case round =>
    obtain ⟨j, hj, rfl, l', hl', how, hei⟩ := hrel
    clear HO HEI
    by_cases hlt : j < bs.length
    · have hli := int_lt hlt
      have htl := HLB.out
      obtain ⟨g, cur, hag, hNg, hgb, hgc⟩ := own_blk (N := w.heap.size) (l := l') (a := a1) (c := c1) (by unfold Ob; rw [hl']; exact how) (i := j) (by omega)
      subst hag
      have hgf := Lib.frozen_of_heap hgb j
      have HW1 := Hid.mk' (own_set1 how j (u8V 77))
      rw [u8_set] at HW1
      have HE1 := Hid.mk' (hei.set hgb hNg j (u8V 77))
      have HL1 : Hid ((l'.set j 77).length = bs.length) := (by rw [List.length_set]; exact hl' : _ = _)
      generalize l'[j].toNat = bv at *
      clear hgb hei how hl'
      go_wp2_with fail
      go_roundw
      case rel => exact ⟨j + 1, nat_lt hli, by go_num, _, HL1.out, HW1.out, HE1.out⟩
      case measure => simp [intOf]; first | exact meas hli | omega
    · have HSS := Hid.mk' (HS.out q q' _ HSM.out hei.m.in hei.n.in)
      have x0 := cell_of_obj hei.xm (j := 0) (v := .slice q.ta q.ths.length q.tc) rfl
      have x1 := cell_of_obj hei.xm (j := 1) (v := .slice q.fa q.funcs.length q.fc) rfl
      have y0 := cell_of_obj hei.xn (j := 0) (v := .slice q'.ta q'.ths.length q'.tc) rfl
      have y1 := cell_of_obj hei.xn (j := 1) (v := .slice q'.fa q'.funcs.length q'.fc) rfl
      have HBB := Hid.mk' hei.b
      unfold Mo.val at HSS
      clear hei how hl' HS
      go_wp2_with fail
      refine HSS.out.mono ?_
      rintro e W9 ⟨rfl, bb9⟩
      go_wp2_with fail
      go_ret
      exact ⟨rfl, HBB.out.trans (bb9.mono HBB.out.size)⟩
end Go.Proofs.YtfamomjgjamnoaaDoor
