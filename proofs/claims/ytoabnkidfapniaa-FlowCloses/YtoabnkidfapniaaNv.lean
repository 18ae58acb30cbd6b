/- FlowEdges, FlowReach, FlowBlocks: the laws. -/
import Derived.Test.YtoabnkidfapniaaNu
import Derived.Test.YtoabnkidfapniaaNt
namespace Go.Proofs.Ytoabnkidfapniaa
open Go.RowKit Go.Sort

/-- What a law holds while it writes over what was told: the row, and the document's own answer, which lies elsewhere. -/
structure LI (w w1 : World) (T : TypeId) (n m : Nat) (vl vq : Value) (ys : List Value) (W : World) : Prop where
  l : ∃ xs, W.ownsRow (w.heap.size + 1) T 1 vl n xs
  q : W.ownsRow (w.heap.size + 1) T 1 vq m ys
  ap : Apart vq vl
  b : Below (w.heap.size + 1) w1 W
section
variable {w w1 : World} {T : TypeId} {n m : Nat} {vl vq : Value} {ys : List Value} {W W' : World}
theorem LI.stay (h : LI w w1 T n m vl vq ys W) (hs : w.heap.size + 1 ≤ W.heap.size) (hb : Below W.heap.size W W') : LI w w1 T n m vl vq ys W' := by
  obtain ⟨xs, hx⟩ := h.l
  exact ⟨⟨xs, own_stay hx hb⟩, own_stay h.q hb, h.ap, h.b.trans (hb.mono hs)⟩
theorem LI.at {a : Option Addr} {c i : Nat} (h : LI w w1 T n m (.slice a n c) vq ys W) (hi : i < n) : ∃ g u, a = some ⟨g, 0, none⟩ ∧ W.cell? ⟨g, i, none⟩ = some u ∧ W.frozen? ⟨g, i, none⟩ = false := by
  obtain ⟨xs, hx⟩ := h.l
  have hl : i < xs.length := by have := hx.1; omega
  obtain ⟨g, rfl, hc, _⟩ := own_cell hx (j := i) (u := xs[i]) (List.getElem?_eq_getElem hl)
  exact ⟨g, _, rfl, hc, World.ownsRow.frozenAt hx i⟩
theorem LI.put {g c : Nat} (h : LI w w1 T n m (.slice (some ⟨g, 0, none⟩) n c) vq ys W) (i : Nat) (u : Value) : LI w w1 T n m (.slice (some ⟨g, 0, none⟩) n c) vq ys (W.setCell ⟨g, i, none⟩ u) := by
  obtain ⟨xs, hx⟩ := h.l
  obtain ⟨cur, hc, hN⟩ := own_blk hx
  refine ⟨⟨_, (World.ownsRow.stored hx i u).1⟩, own_off h.q (fun e => ?_) _ _, h.ap, h.b.setCell (by simp only; omega) _⟩
  rcases h.ap with e2 | e2
  · rw [e2] at e; cases e
  · exact e2 (by rw [e]; rfl)
/-- And puts one behind it. -/
theorem LI.app {t : TypeId} {z : Value} {bytes : Nat} (ht : Try.prog.underlying t = some (.slice T)) (hi : (Try.prog.info? T).map (fun i => (i.zero, i.size, i.bytes)) = some (some z, 1, bytes)) (hzs : z.cells.size = 1) (hby : bytes ≤ 8) (h : LI w w1 T n m vl vq ys W) (hs : w.heap.size + 1 ≤ W.heap.size) (hn : n ≤ 1000000) (u : Value) (hu : u.oneCell' = true) (ty : TypeId) :
    ∃ v' W', (Builtin.append_ #[t, t] ty #[vl, .slice (some ⟨W.heap.size, 0, none⟩) 1 1]).run Try.prog (W.alloc (.cells #[u] T)) = .ok v' W' ∧ W'.ownsRow (w.heap.size + 1) T 1 vq m ys ∧ Below (w.heap.size + 1) w1 W' := by
  obtain ⟨xs, hx⟩ := h.l
  obtain ⟨v', W', h1, h2, h3⟩ := app_one (t := t) ht hi hzs (by decide) hx hs (by unfold maxLen; omega) (Nat.le_trans (Nat.mul_le_mul_left _ hby) (by omega)) #[u] rfl (by simp [hu]) ty
  exact ⟨v', W', h1, h.q.kept h3 h.ap, h.b.grown h3 hs (fun k e => own_base hx k e)⟩
end
/-- The function's own box. -/
theorem box_w1 (w : World) (fc : Array Value) : ∀ W : World, Below (w.heap.size + 1) (w.alloc (.cells fc 25)) W → W.heap[w.heap.size]? = some (.cells fc 25) ∧ Below w.heap.size w W ∧ w.heap.size + 1 ≤ W.heap.size := by
  intro W hb
  have h1 := (hb.block _ (Nat.lt_succ_self _)).trans (heap_alloc_new w (.cells fc 25))
  exact ⟨h1, (Below.one (Below.refl _ w) (.cells fc 25)).trans (hb.mono (Nat.le_succ _)), (Array.getElem?_eq_some_iff.1 h1).1⟩

set_option maxRecDepth 100000 in
set_option maxHeartbeats 4000000 in
theorem flowEdges_any (f : Fn) (stop : Int) (w : World) (hi : Iss w f.ca f.code) (hc : f.code.length ≤ f.cc) : Calls Try.prog 5 #[f.val, .int .i64 stop] w fun e w' => e = .returned (.bool true) ∧ Below w.heap.size w w' := by
  have HE : Hid (∀ w', Below w.heap.size w w' → Calls Try.prog 17 #[f.val] w' (REP f.code w')) := fun w' hb => redges_any f w' (hi.stay hb)
  have HT : Hid (∀ rs wa wc st w', Below w.heap.size w w' → IsR f.code rs → RowIn w' wa 2 ((edg f.code rs).map edC) → Calls Try.prog 18 #[f.val, .slice wa (edg f.code rs).length wc, .int .i64 st] w' fun e w'' => e = .returned (.bool true) ∧ Below w'.heap.size w' w'') := fun rs wa wc st w' hb hr hw => told_any f rs wa wc st w' (hi.stay hb) hc hr hw
  have HF := Hid.mk' fixed_any
  obtain ⟨fn, fpa, fpc, fps, frg, fwd, fca, fcc, fl⟩ := f
  unfold Fn.val at *
  simp only at hi HE HT ⊢
  have HB := Hid.mk' (Below.one (Below.refl _ w) (.cells #[.string fn, .slice fpa fps.length fpc, .int .i64 frg, .int .i64 fwd, .slice fca fl.length fcc] 25))
  have HX := Hid.mk' (heap_alloc_new w (.cells #[.string fn, .slice fpa fps.length fpc, .int .i64 frg, .int .i64 fwd, .slice fca fl.length fcc] 25))
  clear hi hc
  go_enter Try.func5, Try.ntmps5
  go_wp2_with fail
  refine (HE.out _ HB.out).mono ?_
  rintro e W1 ⟨v1, rs, rfl, hir, ho, bb1⟩
  obtain ⟨a1, c1, rfl⟩ := gown_form ho
  have HIR := Hid.mk' hir
  have HRW := Hid.mk' (own_row ho (fun _ => rfl) (by decide))
  have HX1 := Hid.mk' (blk_stay HX.out bb1)
  have HB1 := Hid.mk' (Below.on HB.out bb1)
  clear hir ho bb1 HX HB HE
  go_wp2_with fail
  refine (HF.out _).mono ?_
  rintro e W2 ⟨rfl, bb2⟩
  replace HX1 := Hid.mk' (blk_stay HX1.out bb2)
  replace HB1 := Hid.mk' (Below.on HB1.out bb2)
  replace HRW := Hid.mk' (HRW.out.below bb2)
  clear bb2
  have z0 := cell_of_obj HX1.out (j := 0) (v := .string fn) rfl
  have z1 := cell_of_obj HX1.out (j := 1) (v := .slice fpa fps.length fpc) rfl
  have z2 := cell_of_obj HX1.out (j := 2) (v := .int .i64 frg) rfl
  have z3 := cell_of_obj HX1.out (j := 3) (v := .int .i64 fwd) rfl
  have z4 := cell_of_obj HX1.out (j := 4) (v := .slice fca fl.length fcc) rfl
  go_wp2_with fail
  refine (HT.out rs a1 c1 (-1) _ HB1.out HIR.out HRW.out).mono ?_
  rintro e W3 ⟨rfl, bb3⟩
  replace HX1 := Hid.mk' (blk_stay HX1.out bb3)
  replace HB1 := Hid.mk' (Below.on HB1.out bb3)
  replace HRW := Hid.mk' (HRW.out.below bb3)
  clear bb3 z0 z1 z2 z3 z4
  have z0 := cell_of_obj HX1.out (j := 0) (v := .string fn) rfl
  have z1 := cell_of_obj HX1.out (j := 1) (v := .slice fpa fps.length fpc) rfl
  have z2 := cell_of_obj HX1.out (j := 2) (v := .int .i64 frg) rfl
  have z3 := cell_of_obj HX1.out (j := 3) (v := .int .i64 fwd) rfl
  have z4 := cell_of_obj HX1.out (j := 4) (v := .slice fca fl.length fcc) rfl
  go_wp2_with fail
  refine (HT.out rs a1 c1 stop _ HB1.out HIR.out HRW.out).mono ?_
  rintro e W4 ⟨rfl, bb4⟩
  replace HX1 := Hid.mk' (blk_stay HX1.out bb4)
  replace HB1 := Hid.mk' (Below.on HB1.out bb4)
  replace HRW := Hid.mk' (HRW.out.below bb4)
  clear bb4 z0 z1 z2 z3 z4
  have z0 := cell_of_obj HX1.out (j := 0) (v := .string fn) rfl
  have z1 := cell_of_obj HX1.out (j := 1) (v := .slice fpa fps.length fpc) rfl
  have z2 := cell_of_obj HX1.out (j := 2) (v := .int .i64 frg) rfl
  have z3 := cell_of_obj HX1.out (j := 3) (v := .int .i64 fwd) rfl
  have z4 := cell_of_obj HX1.out (j := 4) (v := .slice fca fl.length fcc) rfl
  go_wp2_with fail
  refine (HT.out rs a1 c1 (-1) _ HB1.out HIR.out HRW.out).mono ?_
  rintro e W5 ⟨rfl, bb5⟩
  go_wp2_with fail
  go_ret
  exact ⟨rfl, Below.on HB1.out bb5⟩
theorem IsR.same {l : List Is} {a b : List Bool} (ha : IsR l a) (hb : IsR l b) : decide (a = b) = true := decide_eq_true (ha.one hb)
set_option maxRecDepth 100000 in
set_option maxHeartbeats 4000000 in
theorem flowReach_any (f : Fn) (w : World) (hi : Iss w f.ca f.code) : Calls Try.prog 4 #[f.val] w fun e w' => e = .returned (.bool true) ∧ Below w.heap.size w w' := by
  have HP : Hid (∀ w', Below w.heap.size w w' → Calls Try.prog 14 #[f.val] w' (ReP f.code w')) := fun w' hb => reach_any f w' (hi.stay hb)
  have HQ : Hid (∀ w', Below w.heap.size w w' → Calls Try.prog 15 #[f.val] w' (ReP f.code w')) := fun w' hb => rreach_any f w' (hi.stay hb)
  have HF := Hid.mk' fixed_any
  obtain ⟨fn, fpa, fpc, fps, frg, fwd, fca, fcc, fl⟩ := f
  unfold Fn.val at *
  simp only at hi HP HQ ⊢
  have HW1 := Hid.mk' (box_w1 w #[.string fn, .slice fpa fps.length fpc, .int .i64 frg, .int .i64 fwd, .slice fca fl.length fcc])
  have HB := Hid.mk' (Below.one (Below.refl _ w) (.cells #[.string fn, .slice fpa fps.length fpc, .int .i64 frg, .int .i64 fwd, .slice fca fl.length fcc] 25))
  clear hi
  go_enter Try.func4, Try.ntmps4
  go_wp2_with fail
  refine (HP.out _ HB.out).mono ?_
  rintro e W1 ⟨v1, rs, rfl, hir, ho, bb1⟩
  obtain ⟨a1, c1, rfl⟩ := gown_form ho
  rw [World.size_alloc] at ho bb1
  obtain ⟨hx, hbw, hsz⟩ := HW1.out _ bb1
  have HIR := Hid.mk' hir
  have HO1 := Hid.mk' ho
  have HB1 := Hid.mk' bb1
  have HBW := Hid.mk' hbw
  have HSZ := Hid.mk' hsz
  have z0 := cell_of_obj hx (j := 0) (v := .string fn) rfl
  have z1 := cell_of_obj hx (j := 1) (v := .slice fpa fps.length fpc) rfl
  have z2 := cell_of_obj hx (j := 2) (v := .int .i64 frg) rfl
  have z3 := cell_of_obj hx (j := 3) (v := .int .i64 fwd) rfl
  have z4 := cell_of_obj hx (j := 4) (v := .slice fca fl.length fcc) rfl
  clear hir ho bb1 hx hbw hsz HB
  go_wp2_with fail
  refine (HQ.out _ HBW.out).mono ?_
  rintro e W2 ⟨v2, rs2, rfl, hir2, ho2, bb2⟩
  obtain rfl := hir2.one HIR.out
  obtain ⟨a2, c2, rfl⟩ := gown_form ho2
  have HL2 : Hid (LI w (w.alloc (.cells #[.string fn, .slice fpa fps.length fpc, .int .i64 frg, .int .i64 fwd, .slice fca fl.length fcc] 25)) 4 rs2.length rs2.length (.slice a1 rs2.length c1) (.slice a2 rs2.length c2) (rs2.map bV) W2) := ⟨⟨_, own_stay HO1.out bb2⟩, own_mono ho2 HSZ.out, apart_new ho2 HO1.out (Nat.le_refl _), HB1.out.trans (bb2.mono HSZ.out)⟩
  have HO2 := Hid.mk' ho2
  have HO12 := Hid.mk' (own_stay HO1.out bb2)
  have HRL := Hid.mk' hir2.len
  clear hir2 ho2 bb2 HO1 HB1 HBW HSZ z0 z1 z2 z3 z4 HQ
  go_wp2_with fail
  refine (HF.out _).mono ?_
  rintro e W3 ⟨rfl, bb3⟩
  have HS3 : Hid (w.heap.size + 1 ≤ W2.heap.size) := (HW1.out _ HL2.out.b).2.2
  replace HL2 := Hid.mk' (HL2.out.stay HS3.out bb3)
  have hll : rs2.length ≤ 1024 := HRL.out
  have HSA := Hid.mk' (sameBools_any rs2 rs2 a1 a2 c1 c2 W3 ((own_lst HO12.out).stay bb3) ((own_lst HO2.out).stay bb3) (by omega))
  rw [decide_eq_true rfl] at HSA
  clear bb3 HO12 HO2 HS3
  generalize w.alloc (.cells #[.string fn, .slice fpa fps.length fpc, .int .i64 frg, .int .i64 fwd, .slice fca fl.length fcc] 25) = w1 at *
  go_wp2_with fail
  refine HSA.out.mono ?_
  rintro e W4 ⟨rfl, bb4⟩
  have HS4 : Hid (w.heap.size + 1 ≤ W3.heap.size) := (HW1.out _ HL2.out.b).2.2
  have HL4 := Hid.mk' (HL2.out.stay HS4.out bb4)
  clear bb4 HSA HL2 HS4
  go_wp2_with fail
  go_loopw [5] (fun t5 wr => ∃ i : Nat, t5 = .int .i64 (i : Int) ∧ i ≤ rs2.length ∧ LI w w1 4 rs2.length rs2.length (.slice a1 rs2.length c1) (.slice a2 rs2.length c2) (rs2.map bV) wr) (fun t5 _ => rs2.length - (intOf t5).toNat)
  case atStart => exact ⟨0, rfl, Nat.zero_le _, HL4.out⟩
  case round =>
    obtain ⟨i, rfl, hil, hli⟩ := hrel
    have HLI := Hid.mk' hli
    clear hli HL4
    by_cases hlt : i < rs2.length
    · obtain ⟨g, u, rfl, d0, f0⟩ := HLI.out.at hlt
      have hlti : (i : Int) < (rs2.length : Int) := by omega
      have HPU := Hid.mk' (fun u => HLI.out.put i u)
      go_wp2_with fail
      go_roundw
      case rel => exact ⟨i + 1, by go_num, hlt, HPU.out _⟩
      case measure => simp [intOf]; omega
    · obtain ⟨hx, hbw, hsz⟩ := HW1.out _ HLI.out.b
      have HAP := Hid.mk' (HLI.out.app (t := 37) Try.underlying37 Try.infoBool rfl (by decide) hsz (by omega) (.bool true) rfl 37)
      clear hx hbw hsz
      go_wp2_with (at_builtin; refine wpl_app rfl _ _ 37 37 _ _ rfl rfl rfl HAP.out ?_; rintro v5 W5 ⟨oq5, b5⟩; obtain ⟨hx5, hbw5, hsz5⟩ := HW1.out _ b5; have HOQ := Hid.mk' oq5; have HB5 := Hid.mk' hbw5; have z0 := cell_of_obj hx5 (j := 0) (v := .string fn) rfl; have z1 := cell_of_obj hx5 (j := 1) (v := .slice fpa fps.length fpc) rfl; have z2 := cell_of_obj hx5 (j := 2) (v := .int .i64 frg) rfl; have z3 := cell_of_obj hx5 (j := 3) (v := .int .i64 fwd) rfl; have z4 := cell_of_obj hx5 (j := 4) (v := .slice fca fl.length fcc) rfl; clear oq5 hbw5 hx5)
      refine (HP.out _ HB5.out).mono ?_
      rintro e W6 ⟨v6, rs6, rfl, hir6, ho6, bb6⟩
      obtain rfl := hir6.one HIR.out
      obtain ⟨a6, c6, rfl⟩ := gown_form ho6
      have HSB := Hid.mk' (sameBools_any rs6 rs6 a6 a2 c6 c2 W6 (own_lst ho6) ((own_lst HOQ.out).stay bb6) (by omega))
      rw [decide_eq_true rfl] at HSB
      replace HB5 := Hid.mk' (Below.on HB5.out bb6)
      clear hir6 ho6 bb6 z0 z1 z2 z3 z4
      go_wp2_with fail
      refine HSB.out.mono ?_
      rintro e W7 ⟨rfl, bb7⟩
      go_wp2_with fail
      go_ret
      exact ⟨rfl, Below.on HB5.out bb7⟩
set_option maxRecDepth 100000 in
set_option maxHeartbeats 4000000 in
theorem flowBlocks_any (f : Fn) (w : World) (hi : Iss w f.ca f.code) (hc : f.code.length ≤ f.cc) : Calls Try.prog 6 #[f.val] w fun e w' => e = .returned (.bool true) ∧ Below w.heap.size w w' := by
  have HP : Hid (∀ w', Below w.heap.size w w' → Calls Try.prog 19 #[f.val] w' (BlP f.code w')) := fun w' hb => blocks_any f w' (hi.stay hb) hc
  have HQ : Hid (∀ w', Below w.heap.size w w' → Calls Try.prog 20 #[f.val] w' (BlP f.code w')) := fun w' hb => rblocks_any f w' (hi.stay hb)
  have HF := Hid.mk' fixed_any
  obtain ⟨fn, fpa, fpc, fps, frg, fwd, fca, fcc, fl⟩ := f
  unfold Fn.val at *
  simp only at hi HP HQ ⊢
  have HW1 := Hid.mk' (box_w1 w #[.string fn, .slice fpa fps.length fpc, .int .i64 frg, .int .i64 fwd, .slice fca fl.length fcc])
  have HB := Hid.mk' (Below.one (Below.refl _ w) (.cells #[.string fn, .slice fpa fps.length fpc, .int .i64 frg, .int .i64 fwd, .slice fca fl.length fcc] 25))
  clear hi hc
  go_enter Try.func6, Try.ntmps6
  go_wp2_with fail
  refine (HP.out _ HB.out).mono ?_
  rintro e W1 ⟨v1, rs, rfl, hir, ho, bb1⟩
  obtain ⟨a1, c1, rfl⟩ := gown_form ho
  rw [World.size_alloc] at ho bb1
  obtain ⟨hx, hbw, hsz⟩ := HW1.out _ bb1
  have HIR := Hid.mk' hir
  have HO1 := Hid.mk' ho
  have HB1 := Hid.mk' bb1
  have HBW := Hid.mk' hbw
  have HSZ := Hid.mk' hsz
  have z0 := cell_of_obj hx (j := 0) (v := .string fn) rfl
  have z1 := cell_of_obj hx (j := 1) (v := .slice fpa fps.length fpc) rfl
  have z2 := cell_of_obj hx (j := 2) (v := .int .i64 frg) rfl
  have z3 := cell_of_obj hx (j := 3) (v := .int .i64 fwd) rfl
  have z4 := cell_of_obj hx (j := 4) (v := .slice fca fl.length fcc) rfl
  clear hir ho bb1 hx hbw hsz HB
  go_wp2_with fail
  refine (HQ.out _ HBW.out).mono ?_
  rintro e W2 ⟨v2, rs2, rfl, hir2, ho2, bb2⟩
  obtain rfl := hir2.one HIR.out
  obtain ⟨a2, c2, rfl⟩ := gown_form ho2
  have HL2 : Hid (LI w (w.alloc (.cells #[.string fn, .slice fpa fps.length fpc, .int .i64 frg, .int .i64 fwd, .slice fca fl.length fcc] 25)) 3 (blk fl rs2).length (blk fl rs2).length (.slice a1 (blk fl rs2).length c1) (.slice a2 (blk fl rs2).length c2) ((blk fl rs2).map nV) W2) := ⟨⟨_, own_stay HO1.out bb2⟩, own_mono ho2 HSZ.out, apart_new ho2 HO1.out (Nat.le_refl _), HB1.out.trans (bb2.mono HSZ.out)⟩
  have HO2 := Hid.mk' ho2
  have HO12 := Hid.mk' (own_stay HO1.out bb2)
  have HRL := Hid.mk' hir2.len
  clear hir2 ho2 bb2 HO1 HB1 HBW HSZ z0 z1 z2 z3 z4 HQ
  go_wp2_with fail
  refine (HF.out _).mono ?_
  rintro e W3 ⟨rfl, bb3⟩
  have HS3 : Hid (w.heap.size + 1 ≤ W2.heap.size) := (HW1.out _ HL2.out.b).2.2
  replace HL2 := Hid.mk' (HL2.out.stay HS3.out bb3)
  have hll : (blk fl rs2).length ≤ 1024 := Nat.le_trans (bls_len _ _) HRL.out
  have HSA := Hid.mk' (sameInts_any (blk fl rs2) (blk fl rs2) a1 a2 c1 c2 W3 ((own_lst HO12.out).stay bb3) ((own_lst HO2.out).stay bb3) (by omega))
  rw [decide_eq_true rfl] at HSA
  clear bb3 HO12 HO2 HS3
  generalize w.alloc (.cells #[.string fn, .slice fpa fps.length fpc, .int .i64 frg, .int .i64 fwd, .slice fca fl.length fcc] 25) = w1 at *
  go_wp2_with fail
  refine HSA.out.mono ?_
  rintro e W4 ⟨rfl, bb4⟩
  have HS4 : Hid (w.heap.size + 1 ≤ W3.heap.size) := (HW1.out _ HL2.out.b).2.2
  have HL4 := Hid.mk' (HL2.out.stay HS4.out bb4)
  clear bb4 HSA HL2 HS4
  go_wp2_with fail
  go_loopw [5] (fun t5 wr => ∃ i : Nat, t5 = .int .i64 (i : Int) ∧ i ≤ (blk fl rs2).length ∧ LI w w1 3 (blk fl rs2).length (blk fl rs2).length (.slice a1 (blk fl rs2).length c1) (.slice a2 (blk fl rs2).length c2) ((blk fl rs2).map nV) wr) (fun t5 _ => (blk fl rs2).length - (intOf t5).toNat)
  case atStart => exact ⟨0, rfl, Nat.zero_le _, HL4.out⟩
  case round =>
    obtain ⟨i, rfl, hil, hli⟩ := hrel
    have HLI := Hid.mk' hli
    clear hli HL4
    by_cases hlt : i < (blk fl rs2).length
    · obtain ⟨g, u, rfl, d0, f0⟩ := HLI.out.at hlt
      have hlti : (i : Int) < ((blk fl rs2).length : Int) := by omega
      have HPU := Hid.mk' (fun u => HLI.out.put i u)
      go_wp2_with fail
      go_roundw
      case rel => exact ⟨i + 1, by go_num, hlt, HPU.out _⟩
      case measure => simp [intOf]; omega
    · obtain ⟨hx, hbw, hsz⟩ := HW1.out _ HLI.out.b
      have HAP := Hid.mk' (HLI.out.app (t := 27) Try.underlying27 Try.infoN rfl (by decide) hsz (by omega) (.int .i64 1) rfl 27)
      clear hx hbw hsz
      go_wp2_with (at_builtin; refine wpl_app rfl _ _ 27 27 _ _ rfl rfl rfl HAP.out ?_; rintro v5 W5 ⟨oq5, b5⟩; obtain ⟨hx5, hbw5, hsz5⟩ := HW1.out _ b5; have HOQ := Hid.mk' oq5; have HB5 := Hid.mk' hbw5; have z0 := cell_of_obj hx5 (j := 0) (v := .string fn) rfl; have z1 := cell_of_obj hx5 (j := 1) (v := .slice fpa fps.length fpc) rfl; have z2 := cell_of_obj hx5 (j := 2) (v := .int .i64 frg) rfl; have z3 := cell_of_obj hx5 (j := 3) (v := .int .i64 fwd) rfl; have z4 := cell_of_obj hx5 (j := 4) (v := .slice fca fl.length fcc) rfl; clear oq5 hbw5 hx5)
      refine (HP.out _ HB5.out).mono ?_
      rintro e W6 ⟨v6, rs6, rfl, hir6, ho6, bb6⟩
      obtain rfl := hir6.one HIR.out
      obtain ⟨a6, c6, rfl⟩ := gown_form ho6
      have HSB := Hid.mk' (sameInts_any (blk fl rs6) (blk fl rs6) a6 a2 c6 c2 W6 (own_lst ho6) ((own_lst HOQ.out).stay bb6) (by omega))
      rw [decide_eq_true rfl] at HSB
      replace HB5 := Hid.mk' (Below.on HB5.out bb6)
      clear hir6 ho6 bb6 z0 z1 z2 z3 z4
      go_wp2_with fail
      refine HSB.out.mono ?_
      rintro e W7 ⟨rfl, bb7⟩
      go_wp2_with fail
      go_ret
      exact ⟨rfl, Below.on HB5.out bb7⟩
end Go.Proofs.Ytoabnkidfapniaa
