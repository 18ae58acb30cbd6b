/- FlowNext: the law. -/
import Derived.Test.YtoabnkidfapniaaNv
namespace Go.Proofs.Ytoabnkidfapniaa
open Go.RowKit Go.Sort

theorem samF_cpd {W : World} {N : Nat} {g f : Fn} (h : Cpd W N g f) : samF g f = true := by
  obtain ⟨h1, h2, h3, h4, h5, _⟩ := h
  simp [samF, h1, h2, h3, h4, h5, samPs_refl, samXs_refl]
/-- A module of one function, in a block of its own. -/
theorem mo_in {W' : World} (g : Fn) (hg : g.In W') (k : Nat) (hk : W'.heap[k]? = some (.cells #[.string g.name, .slice g.pa g.params.length g.pc, .int .i64 g.regs, .int .i64 g.words, .slice g.ca g.code.length g.cc] 25)) : (Mo.mk none 0 [] (some ⟨k, 0, none⟩) 1 [g]).In W' := by
  refine ⟨⟨by simp, fun i cs h => by simp at h⟩, by simp, ⟨by simp, fun i cs h => ?_⟩, fun f hf => by simp at hf; subst hf; exact hg⟩
  match i, h with
  | 0, h =>
    simp at h
    subst h
    refine ⟨k, 0, rfl, fun j v hj => ?_⟩
    refine cell_of_obj hk ?_
    rw [← Array.getElem?_toList, show 0 + (0 * 5 + j) = j by omega]
    exact (show (g.cells)[j]? = some v from by simpa using hj)
  | i + 1, h => simp at h
set_option maxRecDepth 100000 in
set_option maxHeartbeats 4000000 in
theorem flowNext_any (f : Fn) (z : Int) (w : World) (hf : f.In w) : Calls Try.prog 3 #[f.val, .int .i64 z] w fun e w' => e = .returned (.bool true) ∧ Below w.heap.size w w' := by
  have HC : Hid (∀ w', Below w.heap.size w w' → Calls Try.prog 8 #[f.val] w' fun e w'' => ∃ g : Fn, e = .returned g.val ∧ Cpd w'' w'.heap.size g f ∧ Below w'.heap.size w' w'') := fun w' hb => copyFunc_any f w' (hf.stay hb)
  have HQ : Hid (∀ w', Below w.heap.size w w' → Calls Try.prog 10 #[f.val, .int .i64 z] w' (NxP (nxZ f.code z) w')) := fun w' hb => rnext_any f z w' (hf.stay hb).2.2.2.2.2.1
  have HP : Hid (∀ (g : Fn) (w0 w' : World) N, Cpd w0 N g f → Below w0.heap.size w0 w' → Calls Try.prog 9 #[g.val, .int .i64 z] w' (NxP (nxZ f.code z) w')) := fun g w0 w' N hg hb => by
    have := next_any g z w' ((hg.in hf).stay hb).2.2.2.2.2.1
    rwa [hg.2.2.2.2.1] at this
  have HFI : Hid (∀ w', Below w.heap.size w w' → f.In w') := fun w' hb => hf.stay hb
  have HGI : Hid (∀ (g : Fn) (w' : World) N, Cpd w' N g f → g.In w') := fun g w' N hg => hg.in hf
  have HF := Hid.mk' fixed_any
  have HXL := Hid.mk' (nxZ_len f.code z)
  clear hf
  have HSM : Hid (∀ (g : Fn) (w0 : World) N (w' : World) k1 k2, Cpd w0 N g f → g.In w' → f.In w' → w'.heap[k1]? = some (.cells #[.string g.name, .slice g.pa g.params.length g.pc, .int .i64 g.regs, .int .i64 g.words, .slice g.ca g.code.length g.cc] 25) → w'.heap[k2]? = some (.cells #[.string f.name, .slice f.pa f.params.length f.pc, .int .i64 f.regs, .int .i64 f.words, .slice f.ca f.code.length f.cc] 25) →
      Calls Try.prog 13 #[.agg #[.slice none 0 0, .slice (some ⟨k1, 0, none⟩) 1 1], .agg #[.slice none 0 0, .slice (some ⟨k2, 0, none⟩) 1 1]] w' fun e w'' => e = .returned (.bool true) ∧ Below w'.heap.size w' w'') := fun g w0 N w' k1 k2 hc hg hf h1 h2 => by
    have := rsame_any (Mo.mk none 0 [] (some ⟨k1, 0, none⟩) 1 [g]) (Mo.mk none 0 [] (some ⟨k2, 0, none⟩) 1 [f]) w' (mo_in g hg k1 h1) (mo_in f hf k2 h2)
    rwa [show samM (Mo.mk none 0 [] (some ⟨k1, 0, none⟩) 1 [g]) (Mo.mk none 0 [] (some ⟨k2, 0, none⟩) 1 [f]) = true by simp [samM, samI, samFs, samF_cpd hc]] at this
  generalize nxZ f.code z = nx at *
  unfold Fn.val at *
  have HB := Hid.mk' (Below.one (Below.refl _ w) (.cells #[.string f.name, .slice f.pa f.params.length f.pc, .int .i64 f.regs, .int .i64 f.words, .slice f.ca f.code.length f.cc] 25))
  have HX := Hid.mk' (heap_alloc_new w (.cells #[.string f.name, .slice f.pa f.params.length f.pc, .int .i64 f.regs, .int .i64 f.words, .slice f.ca f.code.length f.cc] 25))
  go_enter Try.func3, Try.ntmps3
  go_wp2_with fail
  refine (HC.out _ HB.out).mono ?_
  rintro e W0 ⟨g, rfl, hg, bb0⟩
  have HG0 := Hid.mk' hg
  have HX0 := Hid.mk' (blk_stay HX.out bb0)
  have HB0 := Hid.mk' (Below.on HB.out bb0)
  have HW1 := Hid.mk' (box_w1 W0 #[.string g.name, .slice g.pa g.params.length g.pc, .int .i64 g.regs, .int .i64 g.words, .slice g.ca g.code.length g.cc])
  have HBX := Hid.mk' (Below.one (Below.refl _ W0) (.cells #[.string g.name, .slice g.pa g.params.length g.pc, .int .i64 g.regs, .int .i64 g.words, .slice g.ca g.code.length g.cc] 25))
  clear hg bb0 HX HB HC
  go_wp2_with fail
  refine (HP.out g W0 _ _ HG0.out HBX.out).mono ?_
  rintro e W1 ⟨v1, rfl, ho, bb1⟩
  obtain ⟨a1, c1, rfl⟩ := gown_form ho
  rw [World.size_alloc] at ho bb1
  obtain ⟨hx, hbw, hsz⟩ := HW1.out _ bb1
  have HO1 := Hid.mk' ho
  have HB1 := Hid.mk' bb1
  have HBW := Hid.mk' (Below.on HB0.out hbw)
  have HSZ := Hid.mk' hsz
  have hx1 := blk_stay HX0.out hbw
  have z0 := cell_of_obj hx1 (j := 0) (v := .string f.name) rfl
  have z1 := cell_of_obj hx1 (j := 1) (v := .slice f.pa f.params.length f.pc) rfl
  have z2 := cell_of_obj hx1 (j := 2) (v := .int .i64 f.regs) rfl
  have z3 := cell_of_obj hx1 (j := 3) (v := .int .i64 f.words) rfl
  have z4 := cell_of_obj hx1 (j := 4) (v := .slice f.ca f.code.length f.cc) rfl
  clear ho bb1 hx hbw hsz hx1 HBX
  go_wp2_with fail
  refine (HQ.out _ HBW.out).mono ?_
  rintro e W2 ⟨v2, rfl, ho2, bb2⟩
  obtain ⟨a2, c2, rfl⟩ := gown_form ho2
  have HL2 : Hid (LI W0 (W0.alloc (.cells #[.string g.name, .slice g.pa g.params.length g.pc, .int .i64 g.regs, .int .i64 g.words, .slice g.ca g.code.length g.cc] 25)) 3 nx.length nx.length (.slice a1 nx.length c1) (.slice a2 nx.length c2) (nx.map nV) W2) := ⟨⟨_, own_stay HO1.out bb2⟩, own_mono ho2 HSZ.out, apart_new ho2 HO1.out (Nat.le_refl _), HB1.out.trans (bb2.mono HSZ.out)⟩
  have HO2 := Hid.mk' ho2
  have HO12 := Hid.mk' (own_stay HO1.out bb2)
  clear ho2 bb2 HO1 HB1 HBW HSZ z0 z1 z2 z3 z4 HQ
  go_wp2_with fail
  refine (HF.out _).mono ?_
  rintro e W3 ⟨rfl, bb3⟩
  have HS3 : Hid (W0.heap.size + 1 ≤ W2.heap.size) := (HW1.out _ HL2.out.b).2.2
  replace HL2 := Hid.mk' (HL2.out.stay HS3.out bb3)
  have hll : nx.length ≤ 1024 := Nat.le_trans HXL.out (by decide)
  have HSA := Hid.mk' (sameInts_any nx nx a1 a2 c1 c2 W3 ((own_lst HO12.out).stay bb3) ((own_lst HO2.out).stay bb3) (by omega))
  rw [decide_eq_true rfl] at HSA
  clear bb3 HO12 HO2 HS3
  generalize W0.alloc (.cells #[.string g.name, .slice g.pa g.params.length g.pc, .int .i64 g.regs, .int .i64 g.words, .slice g.ca g.code.length g.cc] 25) = w1 at *
  go_wp2_with fail
  refine HSA.out.mono ?_
  rintro e W4 ⟨rfl, bb4⟩
  have HS4 : Hid (W0.heap.size + 1 ≤ W3.heap.size) := (HW1.out _ HL2.out.b).2.2
  have HL4 := Hid.mk' (HL2.out.stay HS4.out bb4)
  clear bb4 HSA HL2 HS4
  go_wp2_with fail
  go_loopw [8] (fun t8 wr => ∃ i : Nat, t8 = .int .i64 (i : Int) ∧ i ≤ nx.length ∧ LI W0 w1 3 nx.length nx.length (.slice a1 nx.length c1) (.slice a2 nx.length c2) (nx.map nV) wr) (fun t8 _ => nx.length - (intOf t8).toNat)
  case atStart => exact ⟨0, rfl, Nat.zero_le _, HL4.out⟩
  case round =>
    obtain ⟨i, rfl, hil, hli⟩ := hrel
    have HLI := Hid.mk' hli
    clear hli HL4
    by_cases hlt : i < nx.length
    · obtain ⟨gb, u, rfl, d0, f0⟩ := HLI.out.at hlt
      have hlti : (i : Int) < (nx.length : Int) := by omega
      have HPU := Hid.mk' (fun u => HLI.out.put i u)
      go_wp2_with fail
      go_roundw
      case rel => exact ⟨i + 1, by go_num, hlt, HPU.out _⟩
      case measure => simp [intOf]; omega
    · obtain ⟨hx, hbw, hsz⟩ := HW1.out _ HLI.out.b
      have HAP := Hid.mk' (HLI.out.app (t := 27) Try.underlying27 Try.infoN rfl (by decide) hsz (by omega) (.int .i64 9) rfl 27)
      clear hx hbw hsz
      go_wp2_with (at_builtin; refine wpl_app rfl _ _ 27 27 _ _ rfl rfl rfl HAP.out ?_; rintro v5 W5 ⟨oq5, b5⟩; obtain ⟨hx5, hbw5, hsz5⟩ := HW1.out _ b5; have HOQ := Hid.mk' oq5; have HB5 := Hid.mk' hbw5; have HX5 := Hid.mk' hx5; have z0 := cell_of_obj hx5 (j := 0) (v := .string g.name) rfl; have z1 := cell_of_obj hx5 (j := 1) (v := .slice g.pa g.params.length g.pc) rfl; have z2 := cell_of_obj hx5 (j := 2) (v := .int .i64 g.regs) rfl; have z3 := cell_of_obj hx5 (j := 3) (v := .int .i64 g.words) rfl; have z4 := cell_of_obj hx5 (j := 4) (v := .slice g.ca g.code.length g.cc) rfl; clear oq5 hbw5 hx5)
      refine (HP.out g W0 _ _ HG0.out HB5.out).mono ?_
      rintro e W6 ⟨v6, rfl, ho6, bb6⟩
      obtain ⟨a6, c6, rfl⟩ := gown_form ho6
      have HSB := Hid.mk' (sameInts_any nx nx a6 a2 c6 c2 W6 (own_lst ho6) ((own_lst HOQ.out).stay bb6) (by omega))
      rw [decide_eq_true rfl] at HSB
      replace HB5 := Hid.mk' (Below.on HB5.out bb6)
      replace HX5 := Hid.mk' (blk_stay HX5.out bb6)
      clear ho6 bb6 z0 z1 z2 z3 z4
      go_wp2_with fail
      refine HSB.out.mono ?_
      rintro e W7 ⟨rfl, bb7⟩
      replace HB5 := Hid.mk' (Below.on HB5.out bb7)
      replace HX5 := Hid.mk' (blk_stay HX5.out bb7)
      have HY5 := Hid.mk' (blk_stay HX0.out HB5.out)
      clear bb7 HSB
      have z0 := cell_of_obj HX5.out (j := 0) (v := .string g.name) rfl
      have z1 := cell_of_obj HX5.out (j := 1) (v := .slice g.pa g.params.length g.pc) rfl
      have z2 := cell_of_obj HX5.out (j := 2) (v := .int .i64 g.regs) rfl
      have z3 := cell_of_obj HX5.out (j := 3) (v := .int .i64 g.words) rfl
      have z4 := cell_of_obj HX5.out (j := 4) (v := .slice g.ca g.code.length g.cc) rfl
      have y := blk_stay HY5.out (Below.one (Below.refl _ W7) (.cells #[.string g.name, .slice g.pa g.params.length g.pc, .int .i64 g.regs, .int .i64 g.words, .slice g.ca g.code.length g.cc] 25))
      have y0 := cell_of_obj y (j := 0) (v := .string f.name) rfl
      have y1 := cell_of_obj y (j := 1) (v := .slice f.pa f.params.length f.pc) rfl
      have y2 := cell_of_obj y (j := 2) (v := .int .i64 f.regs) rfl
      have y3 := cell_of_obj y (j := 3) (v := .int .i64 f.words) rfl
      have y4 := cell_of_obj y (j := 4) (v := .slice f.ca f.code.length f.cc) rfl
      clear y
      have HBB := Hid.mk' (Below.one (Below.one (Below.refl _ W7) (.cells #[.string g.name, .slice g.pa g.params.length g.pc, .int .i64 g.regs, .int .i64 g.words, .slice g.ca g.code.length g.cc] 25)) (.cells #[.string f.name, .slice f.pa f.params.length f.pc, .int .i64 f.regs, .int .i64 f.words, .slice f.ca f.code.length f.cc] 25))
      have HSM2 := Hid.mk' (HSM.out g W0 _ ((W7.alloc (.cells #[.string g.name, .slice g.pa g.params.length g.pc, .int .i64 g.regs, .int .i64 g.words, .slice g.ca g.code.length g.cc] 25)).alloc (.cells #[.string f.name, .slice f.pa f.params.length f.pc, .int .i64 f.regs, .int .i64 f.words, .slice f.ca f.code.length f.cc] 25)) W7.heap.size (W7.heap.size + 1) HG0.out ((HGI.out g W0 _ HG0.out).stay (Below.on HB5.out HBB.out)) (HFI.out _ (Below.on HB0.out (Below.on HB5.out HBB.out))) (blk_stay (heap_alloc_new W7 _) (Below.one (Below.refl _ _) _)) (by have := heap_alloc_new (W7.alloc (.cells #[.string g.name, .slice g.pa g.params.length g.pc, .int .i64 g.regs, .int .i64 g.words, .slice g.ca g.code.length g.cc] 25)) (.cells #[.string f.name, .slice f.pa f.params.length f.pc, .int .i64 f.regs, .int .i64 f.words, .slice f.ca f.code.length f.cc] 25); rwa [World.size_alloc] at this))
      go_wp2_with fail
      refine HSM2.out.mono ?_
      rintro e W8 ⟨rfl, bb8⟩
      go_wp2_with fail
      go_ret
      exact ⟨rfl, Below.on HB0.out (Below.on HB5.out (Below.on HBB.out bb8))⟩
end Go.Proofs.Ytoabnkidfapniaa
