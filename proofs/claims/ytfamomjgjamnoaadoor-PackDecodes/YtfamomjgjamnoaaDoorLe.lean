/- PackBack: the law. -/
import Derived.Test.YtfamomjgjamnoaaDoorLd
import Derived.Test.YtfamomjgjamnoaaDoorPc
import Derived.Test.YtfamomjgjamnoaaDoorBr
namespace Go.Proofs.YtfamomjgjamnoaaDoor
open Go.RowKit Go.Sort

theorem decR_cases {bs : Bt} {q : Mo} {e p : Int} (h : DecR bs q e p) : (q = mo0 ∧ e ≠ 0 ∧ 0 ≤ p ∧ p ≤ (bs.length : Int)) ∨ (e = 0 ∧ p = 0 ∧ moB q = bs) := by
  unfold DecR at h
  cases hd : decZ bs with
  | error ep =>
    rw [hd] at h
    obtain ⟨h1, h2, h3, h4⟩ := h
    obtain ⟨h5, h6⟩ := dec_place (e := ep.1) (p := ep.2) hd
    exact .inl ⟨h1, by rw [h2]; exact h4, by rw [h3]; exact h5, by rw [h3]; exact h6⟩
  | ok m =>
    rw [hd] at h
    obtain ⟨h1, h2, h3⟩ := h
    refine .inr ⟨h2, h3, ?_⟩
    rw [← moB_er, h1]
    exact enc_dec hd
theorem encB_ok {m : Mo} (h : (mayZ m).1 = 0) : encB m = moB m := by unfold encB; rw [if_pos h]
theorem encB_no {m : Mo} (h : (mayZ m).1 ≠ 0) : encB m = [] := by unfold encB; rw [if_neg h]
theorem dec_back {m q : Mo} {e p : Int} (hm : (mayZ m).1 = 0) (hn : Nums m) (h : DecR (encB m) q e p) : q.er = m.er ∧ e = 0 ∧ p = 0 := by
  rw [encB_ok hm] at h
  unfold DecR at h
  rw [dec_enc (may_ok hm) hn] at h
  exact h
/-- What the first half of PackBack comes to. -/
theorem back_one {m q : Mo} {e p : Int} (hn : Nums m) (h : DecR (encB m) q e p) : ((mayZ m).1 = 0 ∧ e = 0 ∧ samM m q = true) ∨ ((mayZ m).1 ≠ 0 ∧ (encB m).length = 0) := by
  by_cases hm : (mayZ m).1 = 0
  · obtain ⟨h1, h2, _⟩ := dec_back hm hn h
    exact .inl ⟨hm, h2, samM_same h1.symm⟩
  · exact .inr ⟨hm, by rw [encB_no hm]; rfl⟩
set_option maxRecDepth 100000 in
set_option maxHeartbeats 8000000 in
theorem packBack_any (m : Mo) (bs : Bt) (va : Option Addr) (vc : Nat) (w : World) (ht : Tab w) (hm : m.In w) (hy : Bys w bs va vc) : Calls Tryd.prog 5 #[m.val, .slice va bs.length vc] w fun e w' => e = .returned (.bool true) ∧ Below w.heap.size w w' := by
  have hb := Below.one (Below.refl _ w) (.cells (moC m) 25)
  have HF : Hid (∀ w', Below w.heap.size w w' → Calls Tryd.prog 11 #[] w' fun e w'' => e = .returned (.bool true) ∧ Below w'.heap.size w' w'') := fun w' hb => fixed_any w' (ht.stay hb)
  have HM : Hid (∀ (q : Mo) w', q.In w' → Below w.heap.size w w' → Calls Tryd.prog 8 #[q.val] w' fun e w'' => ∃ v, e = .returned (.tuple #[v, .agg #[.int .i64 (mayZ q).1, .int .i64 (mayZ q).2.1, .int .i64 (mayZ q).2.2]]) ∧ Ob w'.heap.size (encB q) v w'' ∧ Below w'.heap.size w' w'') := fun q w' hq hb => encode_any q w' (ht.stay hb) hq
  have HS : Hid (∀ (q : Mo) w', q.In w' → Below w.heap.size w w' → Calls Tryd.prog 10 #[m.val, q.val] w' fun e w'' => e = .returned (.bool (samM m q)) ∧ Below w'.heap.size w' w'') := fun q w' h hb => rsame_any m q w' (hm.stay hb) h
  have HD : Hid (∀ w', Below w.heap.size w w' → Calls Tryd.prog 13 #[.slice va bs.length vc] w' (DeP bs w')) := fun w' hb => decode_any bs va vc w' (hy.stay hb).r (hy.stay hb).b hy.c
  have HSB : Hid (∀ w', Below w.heap.size w w' → SlB bs (.slice va bs.length vc) w') := fun w' hb => ⟨va, vc, rfl, (hy.stay hb).r⟩
  have HN := Hid.mk' (nums_in hm)
  have HX := Hid.mk' (heap_alloc_new w (.cells (moC m) 25))
  have HL := Hid.mk' (encB_len m)
  have HB := Hid.mk' hb
  have HM1 := Hid.mk' (HM.out m _ (hm.stay hb) hb)
  clear ht hm hb hy
  unfold Mo.val at *
  have x0 := cell_of_obj HX.out (j := 0) (v := .slice m.ta m.ths.length m.tc) rfl
  have x1 := cell_of_obj HX.out (j := 1) (v := .slice m.fa m.funcs.length m.fc) rfl
  go_enter Tryd.func5, Tryd.ntmps5
  go_wp2_with fail
  generalize w.alloc (.cells (moC m) 25) = W0 at *
  refine HM1.out.mono ?_
  rintro e W1 ⟨v1, rfl, ob1, bb1⟩
  have HZ : Hid (∀ q e p, DecR (encB m) q e p → ((mayZ m).1 = 0 ∧ e = 0 ∧ samM m q = true) ∨ ((mayZ m).1 ≠ 0 ∧ (encB m).length = 0)) := fun q e p h => back_one HN.out h
  generalize mayZ m = z at *
  generalize encB m = t at *
  obtain ⟨z0, z1, z2⟩ := z
  simp only at *
  have b2 := Below.one bb1 (.cells #[.int .i64 z0, .int .i64 z1, .int .i64 z2] 30)
  have bo := Below.one (Below.refl _ W1) (.cells #[.int .i64 z0, .int .i64 z1, .int .i64 z2] 30)
  have HF1 := Hid.mk' (heap_alloc_new W1 (.cells #[.int .i64 z0, .int .i64 z1, .int .i64 z2] 30))
  obtain ⟨a1, c1, rfl, hr, hv, hc⟩ := ob_dec (own_stay ob1 bo)
  have HD1 := Hid.mk' (decode_any t a1 c1 _ hr hv hc)
  replace HB := Hid.mk' (Below.on HB.out b2)
  replace HX := Hid.mk' (blk_stay HX.out b2)
  clear HM1 ob1 bb1 b2 bo hr hv hc x0 x1
  go_wp2_with fail
  generalize W1.heap.size = G1 at *
  generalize W1.alloc (.cells #[.int .i64 z0, .int .i64 z1, .int .i64 z2] 30) = W2 at *
  refine HD1.out.mono ?_
  rintro e W3 ⟨q, e1, p1, rfl, hdq, om, bb3⟩
  have b4 := Below.one bb3 (.cells #[.slice q.ta q.ths.length q.tc, .slice q.fa q.funcs.length q.fc] 25)
  have bo := Below.one (Below.refl _ W3) (.cells #[.slice q.ta q.ths.length q.tc, .slice q.fa q.funcs.length q.fc] 25)
  have HXQ := Hid.mk' (heap_alloc_new W3 (.cells #[.slice q.ta q.ths.length q.tc, .slice q.fa q.funcs.length q.fc] 25))
  replace HB := Hid.mk' (Below.on HB.out b4)
  replace HX := Hid.mk' (blk_stay HX.out b4)
  replace HF1 := Hid.mk' (blk_stay HF1.out b4)
  have HSS := Hid.mk' (HS.out q _ (om.stay bo).in HB.out)
  have HZC := Hid.mk' (HZ.out q e1 p1 hdq)
  have x0 := cell_of_obj HX.out (j := 0) (v := .slice m.ta m.ths.length m.tc) rfl
  have x1 := cell_of_obj HX.out (j := 1) (v := .slice m.fa m.funcs.length m.fc) rfl
  have y0 := cell_of_obj HXQ.out (j := 0) (v := .slice q.ta q.ths.length q.tc) rfl
  have y1 := cell_of_obj HXQ.out (j := 1) (v := .slice q.fa q.funcs.length q.fc) rfl
  clear HD1 hdq om bb3 b4 bo HZ HS
  unfold Mo.val
  go_wp2_with fail
  generalize W3.heap.size = G3 at *
  generalize W3.alloc (.cells #[.slice q.ta q.ths.length q.tc, .slice q.fa q.funcs.length q.fc] 25) = W4 at *
  refine HSS.out.mono ?_
  generalize samM m q = sb at *
  rintro e W5 ⟨rfl, bb5⟩
  replace HB := Hid.mk' (Below.on HB.out bb5)
  replace HF1 := Hid.mk' (blk_stay HF1.out bb5)
  clear HSS bb5 x0 x1 y0 y1 HX HXQ
  have HTAIL : Hid (∀ W, Below w.heap.size w W → Calls Tryd.prog 13 #[.slice va bs.length vc] W (DeP bs W)) := HD
  go_wp2_with fail
  refine (HF.out _ HB.out).mono ?_
  rintro e W6 ⟨rfl, bb6⟩
  replace HB := Hid.mk' (Below.on HB.out bb6)
  replace HF1 := Hid.mk' (blk_stay HF1.out bb6)
  clear bb6 HF
  have a0 := cell_of_obj HF1.out (j := 0) (v := .int .i64 z0) rfl
  have HEV : Hid (∀ q, moB q = bs → (mayZ q).1 = 0 → encB q = bs) := fun q h1 h2 => (encB_ok h2).trans h1
  have HDC : Hid (∀ q e p, DecR bs q e p → (q = mo0 ∧ e ≠ 0 ∧ 0 ≤ p ∧ p ≤ (bs.length : Int)) ∨ (e = 0 ∧ p = 0 ∧ moB q = bs)) := fun q e p h => decR_cases h
  have HQ : Hid (∀ (a b : Value) w', SlB bs a w' → SlB bs b w' → Calls Tryd.prog 12 #[a, b] w' fun e w'' => e = .returned (.bool true) ∧ w'' = w') := fun a b w' h1 h2 => by
    have := equal_any bs bs a b w' h1 h2
    rwa [eqB_refl] at this
  have hor : (z0 = 0 ∧ e1 = 0 ∧ sb = true) ∨ (z0 ≠ 0 ∧ t.length = 0) := HZC.out
  clear HZC HTAIL
  rcases hor with ⟨rfl, rfl, rfl⟩ | ⟨hz, ht0⟩
  rotate_left
  have hz1 := beq_no hz
  have hz2 := bne_of hz
  rotate_left
  all_goals
    go_wp2_with fail
    refine (HD.out _ HB.out).mono ?_
    rintro e W7 ⟨v, g, pv, rfl, hdv, omv, bb7⟩
    have b8 := Below.one bb7 (.cells #[.slice v.ta v.ths.length v.tc, .slice v.fa v.funcs.length v.fc] 25)
    have bo := Below.one (Below.refl _ W7) (.cells #[.slice v.ta v.ths.length v.tc, .slice v.fa v.funcs.length v.fc] 25)
    have HXV := Hid.mk' (heap_alloc_new W7 (.cells #[.slice v.ta v.ths.length v.tc, .slice v.fa v.funcs.length v.fc] 25))
    replace HB := Hid.mk' (Below.on HB.out b8)
    have HIV := Hid.mk' (omv.stay bo).in
    have y0 := cell_of_obj HXV.out (j := 0) (v := .slice v.ta v.ths.length v.tc) rfl
    have y1 := cell_of_obj HXV.out (j := 1) (v := .slice v.fa v.funcs.length v.fc) rfl
    have hdc := HDC.out v g pv hdv
    clear HD HDC hdv omv bb7 b8 bo a0 HF1
    unfold Mo.val
    rcases hdc with ⟨rfl, hg, hp0, hp1⟩ | ⟨rfl, rfl, hv⟩
    · have hg1 := bne_of hg
      have hd0 : decide (0 ≤ pv) = true := decide_eq_true hp0
      have hd1 : decide (pv ≤ (bs.length : Int)) = true := decide_eq_true hp1
      clear HM HEV HQ HIV hg
      unfold mo0 at *
      simp only [List.length_nil] at *
      go_wp2_with fail
      go_ret
      exact ⟨rfl, HB.out⟩
    · have HMV := Hid.mk' (HM.out v _ HIV.out HB.out)
      have HEE := Hid.mk' (HEV.out v hv)
      clear HM HEV hv
      unfold Mo.val at HMV
      go_wp2_with fail
      generalize W7.heap.size = G7 at *
      generalize W7.alloc (.cells #[.slice v.ta v.ths.length v.tc, .slice v.fa v.funcs.length v.fc] 25) = W8 at *
      refine HMV.out.mono ?_
      generalize mayZ v = y at *
      generalize encB v = tv at *
      obtain ⟨u0, u1, u2⟩ := y
      rintro e W9 ⟨v9, rfl, ob9, bb9⟩
      simp only at *
      have b10 := Below.one bb9 (.cells #[.int .i64 u0, .int .i64 u1, .int .i64 u2] 30)
      have bo := Below.one (Below.refl _ W9) (.cells #[.int .i64 u0, .int .i64 u1, .int .i64 u2] 30)
      have HF2 := Hid.mk' (heap_alloc_new W9 (.cells #[.int .i64 u0, .int .i64 u1, .int .i64 u2] 30))
      have a0 := cell_of_obj HF2.out (j := 0) (v := .int .i64 u0) rfl
      replace HB := Hid.mk' (Below.on HB.out b10)
      have HSV := Hid.mk' (ob_sl (own_stay ob9 bo))
      obtain ⟨a9, c9, rfl⟩ := gown_form ob9
      clear HMV ob9 bb9 b10 bo y0 y1
      have hu : undef = Value.tuple #[] := rfl
      by_cases h0 : u0 = 0
      · subst h0
        have htv := HEE.out rfl
        subst htv
        have HQ1 := Hid.mk' (HQ.out _ _ _ HSV.out (HSB.out _ HB.out))
        go_wp2_with (go_at_call 12; refine HQ1.out.mono ?_; rintro e WB ⟨rfl, rfl⟩)
        go_ret
        exact ⟨rfl, HB.out⟩
      · have h1 := bne_of h0
        clear HQ h0
        go_wp2_with fail
        go_ret
        exact ⟨rfl, HB.out⟩
end Go.Proofs.YtfamomjgjamnoaaDoor
