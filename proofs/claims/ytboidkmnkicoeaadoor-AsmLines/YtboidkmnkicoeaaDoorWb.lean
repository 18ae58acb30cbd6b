/- AsmBack. -/
import Derived.Test.YtboidkmnkicoeaaDoorWa
import Derived.Test.YtboidkmnkicoeaaDoorJe
namespace Go.Proofs.YtboidkmnkicoeaaDoor
open Go.RowKit Go.Sort

theorem fnT_er (f : Fn) : fnT f.er = fnT f := rfl
theorem moT_er (m : Mo) : moT m.er = moT m := by
  unfold moT Mo.er
  simp only
  rw [List.flatMap_map]
  rfl
theorem prnT_len {m : Mo} {w : World} (hm : m.In w) : (prnT m).length ≤ 140737488351232 := by
  unfold prnT
  split
  · rename_i h
    have := moT_len hm (may_pr h)
    omega
  · simp
/-- What is read of a text that was printed of m. -/
theorem parse_print (m : Mo) (w w' : World) (h : Env w') (hm : m.In w) : Calls Tryd.prog 11 #[.string (tb (prnT m))] w' fun e w'' => ∃ (q : Mo) (e1 e2 e3 : Int), e = .returned (.tuple #[q.val, .int .i64 e1, .int .i64 e2, .int .i64 e3]) ∧ q.In w'' ∧ Below w'.heap.size w' w'' ∧ ((mayZ m).1 = 0 → e1 = 0 ∧ q.er = m.er) := by
  refine (parse_any (prnT m) (prnT_len hm) w' h).mono ?_
  rintro e w'' ⟨hb, q, rfl, hq, h1, _⟩
  refine ⟨q, _, _, _, rfl, hq, hb, fun hz => ?_⟩
  have ht : prnT m = moT m := if_pos hz
  obtain ⟨d, hd, hp⟩ := parZ_back hz hm
  rw [ht, hp] at h1 ⊢
  exact ⟨rfl, (h1 rfl).trans hd⟩
/-- What is read of any text, and what is printed of that. -/
theorem parse_text_any (s : Bt) (hs : s.length ≤ 140737488351232) (w : World) (h : Env w) : Calls Tryd.prog 11 #[.string (tb s)] w fun e w' => ∃ (q : Mo) (e1 e2 e3 : Int), e = .returned (.tuple #[q.val, .int .i64 e1, .int .i64 e2, .int .i64 e3]) ∧ q.In w' ∧ Below w.heap.size w w' ∧ (e1 = 0 → e2 = 0 ∧ e3 = 0 ∧ prnT q = s ∧ mayZ q = (0, 0, 0)) ∧ (e1 ≠ 0 → 1 ≤ e2 ∧ 0 ≤ e3 ∧ q = mo0) := by
  refine (parse_any s hs w h).mono ?_
  rintro e w' ⟨hb, q, rfl, hq, h1, h2⟩
  refine ⟨q, _, _, _, rfl, hq, hb, fun hz => ?_, fun hz => ?_⟩
  · obtain ⟨a1, a2, a3, a4⟩ := parZ_text hz
    have he := h1 hz
    have hm : (mayZ q).1 = 0 := by rw [← mayZ_er q, he]; exact a4
    refine ⟨a1, a2, ?_, may_zero hm⟩
    unfold prnT
    rw [if_pos hm, ← moT_er q, he]
    exact a3
  · have := parZ_line hz
    exact ⟨this.1, this.2, h2 hz⟩
theorem str_same (s t : Bt) (h : s = t) : ((tb s).toList == (tb t).toList) = true := by subst h; simp
set_option maxRecDepth 100000 in
set_option maxHeartbeats 4000000 in
theorem asmBack_any (m : Mo) (s : Bt) (hs : s.length ≤ 140737488351232) (w : World) (h : Env w) (hm : m.In w) : Calls Tryd.prog 4 #[m.val, .string (tb s)] w fun e w' => e = .returned (.bool true) ∧ Below w.heap.size w w' := by
  have hb0 := Below.one (Below.refl _ w) (.cells #[.slice m.ta m.ths.length m.tc, .slice m.fa m.funcs.length m.fc] 25)
  have c0 := heap_alloc_new w (.cells #[.slice m.ta m.ths.length m.tc, .slice m.fa m.funcs.length m.fc] 25)
  have HE : Hid (∀ w', Below w.heap.size w w' → Env w') := fun w' hb => h.stay hb
  have HPR : Hid (∀ w', Below w.heap.size w w' → Calls Tryd.prog 7 #[m.val] w' fun e w'' => e = .returned (prnV m) ∧ Below w'.heap.size w' w'') := fun w' hb => print_any m w' (h.stay hb) (hm.stay hb)
  have HP1 : Hid (∀ w', Below w.heap.size w w' → _) := fun w' hb => parse_print m w w' (h.stay hb) hm
  have HP2 : Hid (∀ w', Below w.heap.size w w' → _) := fun w' hb => parse_text_any s hs w' (h.stay hb)
  have HSM : Hid (∀ (q : Mo) w', Below w.heap.size w w' → q.In w' → Calls Tryd.prog 9 #[m.val, q.val] w' fun e w'' => e = .returned (.bool (samM m q)) ∧ Below w'.heap.size w' w'') := fun q w' hb hq => rsame_any m q w' (hm.stay hb) hq
  have HSS : Hid (∀ q : Mo, q.er = m.er → samM m q = true) := fun q hq => samM_same hq.symm
  have HPT : Hid ((mayZ m).1 ≠ 0 → prnT m = []) := fun hz => if_neg hz
  have HFX : Hid (∀ w', Below w.heap.size w w' → Calls Tryd.prog 10 #[] w' fun e w'' => e = .returned (.bool true) ∧ Below w'.heap.size w' w'') := fun w' hb => fixed_any w' (h.stay hb)
  have HPQ : Hid (∀ (q : Mo) w', Below w.heap.size w w' → q.In w' → Calls Tryd.prog 7 #[q.val] w' fun e w'' => e = .returned (.tuple #[.string (tb (prnT q)), .agg #[.int .i64 (mayZ q).1, .int .i64 (mayZ q).2.1, .int .i64 (mayZ q).2.2]]) ∧ Below w'.heap.size w' w'') := fun q w' hb hq => print_any q w' (h.stay hb) hq
  have HC := Hid.mk' c0
  have HB := Hid.mk' hb0
  clear h hm c0 hs hb0
  unfold prnV fltV at HPR
  generalize mayZ m = z at *
  generalize prnT m = t at *
  obtain ⟨z0, z1, z2⟩ := z
  unfold Mo.val at *
  go_enter Tryd.func4, Tryd.ntmps4
  go_wp2_with fail
  generalize hG0 : w.alloc (.cells #[.slice m.ta m.ths.length m.tc, .slice m.fa m.funcs.length m.fc] 25) = W0 at *
  clear hG0
  refine (HPR.out _ HB.out).mono ?_
  rintro e W1 ⟨rfl, hb1⟩
  have hb2 := Below.one hb1 (.cells #[.int .i64 z0, .int .i64 z1, .int .i64 z2] 29)
  have HF := Hid.mk' (heap_alloc_new W1 (.cells #[.int .i64 z0, .int .i64 z1, .int .i64 z2] 29))
  replace HC := Hid.mk' ((hb2.block _ (Array.getElem?_eq_some_iff.1 HC.out).1).trans HC.out)
  replace HB := Hid.mk' (Below.on HB.out hb2)
  clear hb1 hb2 HPR
  go_wp2_with fail
  generalize W1.heap.size = G1 at *
  generalize W1.alloc (.cells #[.int .i64 z0, .int .i64 z1, .int .i64 z2] 29) = W2 at *
  refine (HP1.out _ HB.out).mono ?_
  rintro e W3 ⟨q, e1, e2, e3, rfl, hq, hb3, hz⟩
  have hb4 := Below.one hb3 (.cells #[.slice q.ta q.ths.length q.tc, .slice q.fa q.funcs.length q.fc] 25)
  have HQC := Hid.mk' (heap_alloc_new W3 (.cells #[.slice q.ta q.ths.length q.tc, .slice q.fa q.funcs.length q.fc] 25))
  have HQ := Hid.mk' (hq.stay (Below.one (Below.refl _ W3) (.cells #[.slice q.ta q.ths.length q.tc, .slice q.fa q.funcs.length q.fc] 25)))
  replace HC := Hid.mk' ((hb4.block _ (Array.getElem?_eq_some_iff.1 HC.out).1).trans HC.out)
  replace HF := Hid.mk' ((hb4.block _ (Array.getElem?_eq_some_iff.1 HF.out).1).trans HF.out)
  replace HB := Hid.mk' (Below.on HB.out hb4)
  have HZ := Hid.mk' hz
  clear hb3 hb4 HP1 hz hq
  go_wp2_with fail
  generalize W3.heap.size = G3 at *
  generalize W3.alloc (.cells #[.slice q.ta q.ths.length q.tc, .slice q.fa q.funcs.length q.fc] 25) = W4 at *
  refine (HP2.out _ HB.out).mono ?_
  rintro e W5 ⟨p, g1, g2, g3, rfl, hp, hb5, hy, hx⟩
  have hb6 := Below.one hb5 (.cells #[.slice p.ta p.ths.length p.tc, .slice p.fa p.funcs.length p.fc] 25)
  have HPC := Hid.mk' (heap_alloc_new W5 (.cells #[.slice p.ta p.ths.length p.tc, .slice p.fa p.funcs.length p.fc] 25))
  have HP := Hid.mk' (hp.stay (Below.one (Below.refl _ W5) (.cells #[.slice p.ta p.ths.length p.tc, .slice p.fa p.funcs.length p.fc] 25)))
  replace HQ := Hid.mk' (HQ.out.stay hb6)
  replace HC := Hid.mk' ((hb6.block _ (Array.getElem?_eq_some_iff.1 HC.out).1).trans HC.out)
  replace HF := Hid.mk' ((hb6.block _ (Array.getElem?_eq_some_iff.1 HF.out).1).trans HF.out)
  replace HQC := Hid.mk' ((hb6.block _ (Array.getElem?_eq_some_iff.1 HQC.out).1).trans HQC.out)
  replace HB := Hid.mk' (Below.on HB.out hb6)
  have HY := Hid.mk' hy
  have HX := Hid.mk' hx
  clear hb5 hb6 HP2 hy hx hp
  have HPP := Hid.mk' (HPQ.out p _ HB.out HP.out)
  try unfold Mo.val at HPP
  go_wp2_with fail
  generalize W5.heap.size = G5 at *
  generalize W5.alloc (.cells #[.slice p.ta p.ths.length p.tc, .slice p.fa p.funcs.length p.fc] 25) = W6 at *
  generalize mayZ p = v at *
  obtain ⟨v0, v1, v2⟩ := v


  refine HPP.out.mono ?_
  rintro e W7 ⟨rfl, hb7⟩
  have hb8 := Below.one hb7 (.cells #[.int .i64 v0, .int .i64 v1, .int .i64 v2] 29)
  have HG := Hid.mk' (heap_alloc_new W7 (.cells #[.int .i64 v0, .int .i64 v1, .int .i64 v2] 29))
  replace HQ := Hid.mk' (HQ.out.stay hb8)
  replace HC := Hid.mk' ((hb8.block _ (Array.getElem?_eq_some_iff.1 HC.out).1).trans HC.out)
  replace HF := Hid.mk' ((hb8.block _ (Array.getElem?_eq_some_iff.1 HF.out).1).trans HF.out)
  replace HQC := Hid.mk' ((hb8.block _ (Array.getElem?_eq_some_iff.1 HQC.out).1).trans HQC.out)
  replace HPC := Hid.mk' ((hb8.block _ (Array.getElem?_eq_some_iff.1 HPC.out).1).trans HPC.out)
  replace HB := Hid.mk' (Below.on HB.out hb8)
  clear hb7 hb8 HPP HPQ HP
  have HS := Hid.mk' (HSM.out q _ HB.out HQ.out)
  have x0 := cell_of_obj HC.out (j := 0) (v := .slice m.ta m.ths.length m.tc) rfl
  have x1 := cell_of_obj HC.out (j := 1) (v := .slice m.fa m.funcs.length m.fc) rfl
  have y0 := cell_of_obj HQC.out (j := 0) (v := .slice q.ta q.ths.length q.tc) rfl
  have y1 := cell_of_obj HQC.out (j := 1) (v := .slice q.fa q.funcs.length q.fc) rfl
  try unfold Mo.val at HS
  go_wp2_with fail
  generalize W7.heap.size = G7 at *
  generalize W7.alloc (.cells #[.int .i64 v0, .int .i64 v1, .int .i64 v2] 29) = W8 at *
  generalize hsm : samM m q = sm at *
  refine HS.out.mono ?_
  rintro e W9 ⟨rfl, hb9⟩
  replace HB := Hid.mk' (Below.on HB.out hb9)
  replace HF := Hid.mk' ((hb9.block _ (Array.getElem?_eq_some_iff.1 HF.out).1).trans HF.out)
  replace HPC := Hid.mk' ((hb9.block _ (Array.getElem?_eq_some_iff.1 HPC.out).1).trans HPC.out)
  replace HG := Hid.mk' ((hb9.block _ (Array.getElem?_eq_some_iff.1 HG.out).1).trans HG.out)
  have HSQ := Hid.mk' (HSS.out q)
  rw [hsm] at HSQ
  clear hb9 HS HSM HSS x0 x1 y0 y1 HQC HC HQ hsm
  go_wp2_with fail
  refine (HFX.out _ HB.out).mono ?_
  rintro e WA ⟨rfl, hbA⟩
  replace HB := Hid.mk' (Below.on HB.out hbA)
  replace HF := Hid.mk' ((hbA.block _ (Array.getElem?_eq_some_iff.1 HF.out).1).trans HF.out)
  replace HPC := Hid.mk' ((hbA.block _ (Array.getElem?_eq_some_iff.1 HPC.out).1).trans HPC.out)
  replace HG := Hid.mk' ((hbA.block _ (Array.getElem?_eq_some_iff.1 HG.out).1).trans HG.out)
  have a0 := cell_of_obj HF.out (j := 0) (v := .int .i64 z0) rfl
  have b0 := cell_of_obj HG.out (j := 0) (v := .int .i64 v0) rfl
  have p0 := cell_of_obj HPC.out (j := 0) (v := .slice p.ta p.ths.length p.tc) rfl
  have p1 := cell_of_obj HPC.out (j := 1) (v := .slice p.fa p.funcs.length p.fc) rfl
  clear hbA HFX HF HG HPC HE
  have hu : undef = Value.tuple #[] := rfl
  have hst : g1 = 0 → ((tb (prnT p)).toList == (tb s).toList) = true := fun e => str_same _ _ (HY.out e).2.2.1
  have hv0 : g1 = 0 → v0 = 0 := fun e => by have := (HY.out e).2.2.2; injection this
  have hyy := fun e => (HY.out e)
  have hxx := fun e => (HX.out e)
  have HA : Hid (g1 = 0 ∧ g2 = 0 ∧ g3 = 0 ∧ v0 = 0 ∧ ((tb (prnT p)).toList == (tb s).toList) = true ∨ g1 ≠ 0 ∧ 1 ≤ g2 ∧ 0 ≤ g3 ∧ p = mo0) := by
    show _ ∨ _
    by_cases e : g1 = 0
    · exact .inl ⟨e, (hyy e).1, (hyy e).2.1, hv0 e, hst e⟩
    · exact .inr ⟨e, (hxx e).1, (hxx e).2.1, (hxx e).2.2⟩
  clear hst hv0 hyy hxx HY HX
  by_cases hz0 : z0 = 0
  case' pos =>
    have he1 := (HZ.out hz0).1
    have hsm := HSQ.out (HZ.out hz0).2
    subst hz0 he1 hsm
  case' neg =>
    have hq1 : (z0 == 0) = false := beq_no hz0
    have hq2 : (z0 != 0) = true := bne_of hz0
    have ht := HPT.out hz0
    subst ht
    clear hz0
  all_goals
    clear HZ HSQ HPT
    rcases HA.out with ⟨rfl, rfl, rfl, rfl, hst⟩ | ⟨h1, h2, h3, rfl⟩
    · clear HA p0 p1
      generalize tb (prnT p) = T1 at *
      generalize tb s = T2 at *
      go_wp2_with fail
      go_ret
      exact ⟨rfl, HB.out⟩
    · have k1 : (g1 == 0) = false := beq_no h1
      have k2 : decide ((1 : Int) ≤ g2) = true := decide_eq_true h2
      have k3 : decide ((0 : Int) ≤ g3) = true := decide_eq_true h3
      unfold mo0 at p0 p1
      simp only [List.length_nil] at p0 p1
      clear HA h1 h2 h3
      go_wp2_with fail
      go_ret
      exact ⟨rfl, HB.out⟩
theorem asmBack_b (m : Mo) (s : ByteArray) (hs : s.size ≤ 140737488351232) (w : World) (h : Env w) (hm : m.In w) : Calls Tryd.prog 4 #[m.val, .string s] w fun e w' => e = .returned (.bool true) ∧ Below w.heap.size w w' := by
  have := asmBack_any m s.data.toList (by rw [Array.length_toList]; exact hs) w h hm
  rwa [tb_of] at this
end Go.Proofs.YtboidkmnkicoeaaDoor
