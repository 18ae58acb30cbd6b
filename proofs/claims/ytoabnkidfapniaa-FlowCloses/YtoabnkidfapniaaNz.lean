/- FlowCloses: the law. -/
import Derived.Test.YtoabnkidfapniaaNy
namespace Go.Proofs.Ytoabnkidfapniaa
open Go.RowKit Go.Shelf
attribute [local go_sem] Oper.semAt_some

set_option maxRecDepth 100000 in
set_option maxHeartbeats 8000000 in
theorem closes_in (f : Fn) (w : World) (hi : Iss w f.ca f.code) (hc : f.code.length ≤ f.cc) : CallsIn Fence.wide 6 Try.prog 7 #[f.val] w fun e w' => e = .returned (.bool true) ∧ Below w.heap.size w w' := by
  have HED : Hid (∀ w', Below w.heap.size w w' → Calls Try.prog 21 #[f.val] w' (EdP f.code w')) := fun w' hb => edges_any f w' (hi.stay hb) hc
  have HR : Hid (∀ w', Below w.heap.size w w' → Calls Try.prog 14 #[f.val] w' (ReP f.code w')) := fun w' hb => reach_any f w' (hi.stay hb)
  have HBL : Hid (∀ w', Below w.heap.size w w' → Calls Try.prog 19 #[f.val] w' (BlP f.code w')) := fun w' hb => blocks_any f w' (hi.stay hb) hc
  have HN : Hid (∀ (k : Nat) w', Below w.heap.size w w' → Calls Try.prog 9 #[f.val, .int .i64 (k : Int)] w' (NxP (nxt f.code k) w')) := fun k w' hb => by
    have := next_any f k w' (hi.stay hb)
    rwa [nxZ_nat] at this
  have HF := Hid.mk' fixed_any
  have HIL := Hid.mk' hi.1
  clear hi hc
  obtain ⟨fn, fpa, fpc, fps, frg, fwd, fca, fcc, fl⟩ := f
  unfold Fn.val at *
  simp only at HED HR HBL HN HIL ⊢
  have HB0 : Hid (Below w.heap.size w ((w.alloc (.cells #[.string fn, .slice fpa fps.length fpc, .int .i64 frg, .int .i64 fwd, .slice fca fl.length fcc] 25)).alloc (.cells #[.bool false] 4))) := Below.one (Below.one (Below.refl _ w) _) _
  have HX0 : Hid (((w.alloc (.cells #[.string fn, .slice fpa fps.length fpc, .int .i64 frg, .int .i64 fwd, .slice fca fl.length fcc] 25)).alloc (.cells #[.bool false] 4)).heap[w.heap.size]? = some (.cells #[.string fn, .slice fpa fps.length fpc, .int .i64 frg, .int .i64 fwd, .slice fca fl.length fcc] 25)) := blk_stay (heap_alloc_new w _) (Below.one (Below.refl _ _) _)
  have HY0 : Hid (Boxed ((w.alloc (.cells #[.string fn, .slice fpa fps.length fpc, .int .i64 frg, .int .i64 fwd, .slice fca fl.length fcc] 25)).alloc (.cells #[.bool false] 4)) (w.heap.size + 1) 4 (.bool false)) := by
    have := Boxed.new (w.alloc (.cells #[.string fn, .slice fpa fps.length fpc, .int .i64 frg, .int .i64 fwd, .slice fca fl.length fcc] 25)) 4 (.bool false)
    rw [World.size_alloc] at this
    exact this
  have HS0 : Hid (((w.alloc (.cells #[.string fn, .slice fpa fps.length fpc, .int .i64 frg, .int .i64 fwd, .slice fca fl.length fcc] 25)).alloc (.cells #[.bool false] 4)).heap.size = w.heap.size + 2) := (by simp only [World.size_alloc] : _ = _)
  refine callsIn_of_wp_marks Try.func7 rfl trivial ?_ rfl
  simp only [Try.ntmps7, List.size_toArray, List.length_cons, List.length_nil, Nat.reduceAdd, Nat.reduceSub, Array.replicate_succ, Array.replicate_zero, List.push_toArray, List.append_toArray, List.nil_append, List.cons_append]
  gi_wp2_with fail
  refine ⟨trivial, ?_⟩
  generalize (w.alloc (.cells #[.string fn, .slice fpa fps.length fpc, .int .i64 frg, .int .i64 fwd, .slice fca fl.length fcc] 25)).alloc (.cells #[.bool false] 4) = W0 at *
  refine (callsIn_wide.2 (HF.out _)).mono ?_
  rintro e W1 ⟨rfl, bb1⟩
  have hs1 : w.heap.size + 2 ≤ W1.heap.size := by have := HS0.out; have := bb1.size; omega
  have HS1 := Hid.mk' hs1
  have HB1 := Hid.mk' (Below.on HB0.out bb1)
  have HX1 := Hid.mk' (blk_stay HX0.out bb1)
  have HY1 := Hid.mk' (boxed_stay HY0.out bb1)
  have z0 := cell_of_obj HX1.out (j := 0) (v := .string fn) rfl
  have z1 := cell_of_obj HX1.out (j := 1) (v := .slice fpa fps.length fpc) rfl
  have z2 := cell_of_obj HX1.out (j := 2) (v := .int .i64 frg) rfl
  have z3 := cell_of_obj HX1.out (j := 3) (v := .int .i64 fwd) rfl
  have z4 := cell_of_obj HX1.out (j := 4) (v := .slice fca fl.length fcc) rfl
  clear bb1 HB0 HX0 HY0 HS0 HF hs1
  gi_wp2_with fail
  refine ⟨trivial, ?_⟩
  refine (callsIn_wide.2 (HR.out _ HB1.out)).mono ?_
  rintro e W2 ⟨v2, rs, rfl, hir, ho, bb2⟩
  obtain ⟨ra, rc, rfl⟩ := gown_form ho
  have HIR := Hid.mk' hir
  have bx := Below.one bb2 (.cells #[.slice ra rs.length rc] 37)
  have HB2 := Hid.mk' (Below.on HB1.out bx)
  have HX2 := Hid.mk' (blk_stay HX1.out bx)
  have HY2 := Hid.mk' (boxed_stay HY1.out bx)
  have HZ2 := Hid.mk' (Boxed.new W2 37 (.slice ra rs.length rc))
  have HO2 := Hid.mk' (own_stay (own_mono ho HS1.out) (Below.one (Below.refl _ W2) (.cells #[.slice ra rs.length rc] 37)))
  have HOB : Hid (∀ k, (Value.slice ra rs.length rc).ownBlock = some k → k < W2.heap.size) := fun k e => (ho.lt k e).2
  have HS2 : Hid ((W2.alloc (.cells #[.slice ra rs.length rc] 37)).heap.size = W2.heap.size + 1 ∧ w.heap.size + 2 ≤ W2.heap.size) := ⟨World.size_alloc .., Nat.le_trans HS1.out bb2.size⟩
  have HRL := Hid.mk' hir.len
  clear hir ho bx bb2 z0 z1 z2 z3 z4 HB1 HX1 HY1 HS1
  have b3 := HZ2.out.cell
  by_cases hn0 : rs = []
  · have HNL := Hid.mk' hn0
    have hq : ((rs.length : Int) == 0) = true := by rw [hn0]; rfl
    clear hn0
    have z0 := cell_of_obj HX2.out (j := 0) (v := .string fn) rfl
    have z1 := cell_of_obj HX2.out (j := 1) (v := .slice fpa fps.length fpc) rfl
    have z2 := cell_of_obj HX2.out (j := 2) (v := .int .i64 frg) rfl
    have z3 := cell_of_obj HX2.out (j := 3) (v := .int .i64 fwd) rfl
    have z4 := cell_of_obj HX2.out (j := 4) (v := .slice fca fl.length fcc) rfl
    gi_wp2_with fail
    refine ⟨trivial, ?_⟩
    refine (callsIn_wide.2 (HBL.out _ HB2.out)).mono ?_
    rintro e W3 ⟨v3, rs3, rfl, hir3, on3, bb3⟩
    have e3 := hir3.one HIR.out
    rw [e3, HNL.out, blk_nil] at on3
    clear e3
    obtain ⟨a3, c3, rfl⟩ := gown_form on3
    have hy3 := boxed_stay HY2.out bb3
    have e2 := hy3.cell
    have f2 := hy3.frozen
    have HY3 := Hid.mk' hy3
    have hss := HB2.out.size
    have hs3 := bb3.size
    have HB3 := Hid.mk' (Below.on HB2.out bb3)
    clear hir3 on3 bb3 hy3
    gi_wp2
    have c6 := (HY3.out.set (.bool true)).cell
    refine ⟨.bool true, by simp [results, Try.results7, go_sem, c6], rfl, ?_⟩
    exact HB3.out.setCell (by simp only; omega) _
  have hpos : 0 < rs.length := List.length_pos_iff.2 hn0
  clear hn0
  have HFL : Hid (rs.length = fl.length) := HIR.out.full hpos
  have HZR : Hid (rs[0]? = some true) := HIR.out.zero hpos
  have hq0 : ((rs.length : Int) == 0) = false := beq_no (by omega)
  have hq1 : ((rs.length : Int) != (fl.length : Int)) = false := bne_no (by have := HFL.out; omega)
  have z4 := cell_of_obj HX2.out (j := 4) (v := .slice fca fl.length fcc) rfl
  obtain ⟨gc, hra, d0, k1, k2⟩ := ob_at HO2.out HZR.out
  subst hra
  clear k1 k2
  have hposi : (0 : Int) < (rs.length : Int) := by omega
  have hmk : ∀ W, _ := fun W => run_mkB W rs.length (by have := HRL.out; omega)
  have hgc : gc < W2.heap.size := HOB.out gc rfl
  have HC0 : Hid (CI w #[.string fn, .slice fpa fps.length fpc, .int .i64 frg, .int .i64 fwd, .slice fca fl.length fcc] rs.length W2.heap.size (W2.heap.size + 1 + 1) (W2.heap.size + 1) (.slice (some ⟨gc, 0, none⟩) rs.length rc) rs (led rs.length []) (((W2.alloc (.cells #[.slice (some ⟨gc, 0, none⟩) rs.length rc] 37)).alloc (.cells (mkB rs.length) 4)).alloc (.cells #[.slice (some ⟨W2.heap.size + 1, 0, none⟩) rs.length rs.length] 37))) := by
    have m1 := own_mkB (W2.alloc (.cells #[.slice (some ⟨gc, 0, none⟩) rs.length rc] 37)) rs.length (by have := HRL.out; omega)
    have bo := Below.one (Below.refl _ ((W2.alloc (.cells #[.slice (some ⟨gc, 0, none⟩) rs.length rc] 37)).alloc (.cells (mkB rs.length) 4))) (.cells #[.slice (some ⟨W2.heap.size + 1, 0, none⟩) rs.length rs.length] 37)
    have b2 := Below.one (Below.one (Below.refl _ (W2.alloc (.cells #[.slice (some ⟨gc, 0, none⟩) rs.length rc] 37))) (.cells (mkB rs.length) 4)) (.cells #[.slice (some ⟨W2.heap.size + 1, 0, none⟩) rs.length rs.length] 37)
    have n4 := Boxed.new ((W2.alloc (.cells #[.slice (some ⟨gc, 0, none⟩) rs.length rc] 37)).alloc (.cells (mkB rs.length) 4)) 37 (.slice (some ⟨W2.heap.size + 1, 0, none⟩) rs.length rs.length)
    rw [World.size_alloc] at m1
    rw [World.size_alloc, World.size_alloc] at n4
    have hs := HS2.out.2
    rw [led_nil]
    exact ⟨blk_stay HX2.out b2, boxed_stay HY2.out b2, boxed_stay HZ2.out b2, n4, own_stay HO2.out b2, own_stay (own_mono m1 (by omega)) bo, (fun e => by simp [Value.ownBlock] at e; omega), Below.on HB2.out b2⟩
  have z0 := cell_of_obj HC0.out.fb (j := 0) (v := .string fn) rfl
  have z1 := cell_of_obj HC0.out.fb (j := 1) (v := .slice fpa fps.length fpc) rfl
  have z2 := cell_of_obj HC0.out.fb (j := 2) (v := .int .i64 frg) rfl
  have z3 := cell_of_obj HC0.out.fb (j := 3) (v := .int .i64 fwd) rfl
  have z5 := cell_of_obj HC0.out.fb (j := 4) (v := .slice fca fl.length fcc) rfl
  have HSX : Hid ((((W2.alloc (.cells #[.slice (some ⟨gc, 0, none⟩) rs.length rc] 37)).alloc (.cells (mkB rs.length) 4)).alloc (.cells #[.slice (some ⟨W2.heap.size + 1, 0, none⟩) rs.length rs.length] 37)).heap.size = W2.heap.size + 1 + 1 + 1) := (by simp only [World.size_alloc] : _ = _)
  have HGW : Hid (w.heap.size + 2 ≤ W2.heap.size) := HS2.out.2
  clear HX2 HY2 HZ2 HO2 HB2 HS2 HOB
  gi_wp2_with fail
  refine ⟨trivial, ?_⟩
  generalize ((W2.alloc (.cells #[.slice (some ⟨gc, 0, none⟩) rs.length rc] 37)).alloc (.cells (mkB rs.length) 4)).alloc (.cells #[.slice (some ⟨W2.heap.size + 1, 0, none⟩) rs.length rs.length] 37) = WX at *
  generalize W2.heap.size = G at *
  clear b3 d0 z4 hmk z0 z1 z2 z3 z5
  refine (callsIn_wide.2 (HED.out _ HC0.out.b)).mono ?_
  rintro e W3 ⟨B1, B2, rs', rfl, hir', hseq, bb3⟩
  have e' := hir'.one HIR.out
  rw [e'] at hseq
  have HSQ := Hid.mk' hseq
  have I0 := HC0.out.stay bb3
  have hs3 := bb3.size
  have hsx := HSX.out
  have hgw := HGW.out
  clear hir' hseq bb3 HC0 HED HSX e'
  generalize hGX : WX.heap.size = GX at *
  clear hGX
  have HME : Hid (∀ pre x, pre ++ [x] <+: edg fl rs → x.1 < rs.length ∧ x.2 < rs.length ∧ rs[x.1]? = some true ∧ rs[x.2]? = some true) := by
    intro pre x hp
    have hm : x ∈ edg fl rs := hp.subset (by simp)
    obtain ⟨k1, k2⟩ := mem_edg.1 (show (x.1, x.2) ∈ edg fl rs from hm)
    have k3 := HIR.out.next k1 k2
    exact ⟨(List.getElem?_eq_some_iff.1 k1).1, (List.getElem?_eq_some_iff.1 k3).1, k1, k3⟩
  gi_wp2_with fail
  refine range_o (m := 4) (gf := 30) (lb := #[.pointer (some ⟨B1, 0, none⟩), .pointer (some ⟨B2, 0, none⟩)]) rfl (enters_of Try.func30 (by kernel_rfl) rfl) HSQ.out (Below.refl _ _) (fun _ => rfl) (fun h k => kpE_t h k) (fun W o' _ => kpE_b (by omega) (by omega) W o')
    (fun pre W => CI w #[.string fn, .slice fpa fps.length fpc, .int .i64 frg, .int .i64 fwd, .slice fca fl.length fcc] rs.length G (G + 1 + 1) (G + 1) (.slice (some ⟨gc, 0, none⟩) rs.length rc) rs (led rs.length pre) W) BkX (CI.own w _ _ _ _ _ _ _ (fun pre => led rs.length pre) (by omega)) (fun c => BkX.own _ c) I0 (fun x a' _ => a' = { tmps := #[.agg #[.string fn, .slice fpa fps.length fpc, .int .i64 frg, .int .i64 fwd, .slice fca fl.length fcc], .pointer (some ⟨w.heap.size, 0, none⟩), .pointer (some ⟨w.heap.size + 1, 0, none⟩), .pointer (some ⟨G, 0, none⟩), .pointer (some ⟨G + 1 + 1, 0, none⟩), .int .i64 (x.1 : Int), .int .i64 (x.2 : Int), undef, undef, undef, undef, .bool true, .bool false, .agg #[.string fn, .slice fpa fps.length fpc, .int .i64 frg, .int .i64 fwd, .slice fca fl.length fcc], .slice (some ⟨gc, 0, none⟩) rs.length rc, .slice (some ⟨gc, 0, none⟩) rs.length rc, .int .i64 (rs.length : Int), .bool false, undef, undef, undef, undef, .slice (some ⟨gc, 0, none⟩) rs.length rc, .int .i64 (rs.length : Int), .pointer (some ⟨w.heap.size, 4, none⟩), .slice fca fl.length fcc, .int .i64 (fl.length : Int), .bool false, .bool false, .slice (some ⟨gc, 0, none⟩) rs.length rc, .pointer (some ⟨gc, 0, none⟩), .bool true, .bool false, .bool false, .slice (some ⟨gc, 0, none⟩) rs.length rc, .int .i64 (rs.length : Int), .slice (some ⟨G + 1, 0, none⟩) rs.length rs.length, .agg #[.string fn, .slice fpa fps.length fpc, .int .i64 frg, .int .i64 fwd, .slice fca fl.length fcc], .func (.func 30) #[] #[.pointer (some ⟨B1, 0, none⟩), .pointer (some ⟨B2, 0, none⟩)], .int .i64 (x.1 : Int), .int .i64 (x.2 : Int), undef, undef, undef, undef, undef, undef, undef, undef, undef, undef, undef, undef, undef, undef, undef, undef, undef, undef, undef, undef, undef, undef, undef, undef, undef, undef, undef, undef, undef, undef, undef, undef, undef, undef, undef, undef, undef, undef, undef, undef, undef, undef, undef, undef, undef, undef, undef, undef, undef, undef, undef, undef, undef, undef, undef, undef, undef, undef, undef, undef, undef, undef, undef, undef, undef, undef, undef, undef, undef, undef, undef, undef, undef, undef, undef, undef, undef, undef, undef, undef, undef, undef, undef, undef, undef, undef, undef, undef, undef, undef, undef, undef, undef, undef, undef, undef, undef, undef, undef, undef, undef, undef, undef, undef, undef, undef, undef, undef, undef, undef, undef, undef, undef, undef, undef, undef, undef, undef, undef, undef, undef, undef, undef, undef, undef, undef, undef, undef, undef, undef, undef, undef, undef, undef, undef, undef, undef, undef, undef, undef, undef, undef, undef, undef, undef, undef, undef, undef], defers := [] }) (fun x a' _ W W' row h _ _ => h) ?assign ?body ?done ?stop
  case assign =>
    intro l pre x W hi _
    gi_wp2
    exact ⟨keepsFrom_refl' _ _, kpE_refl _ _ _ _, hi, trivial⟩
  case stop =>
    rintro c pre W _ h _
    exact h.elim
  case body =>
    rintro l pre x a' W hi rfl hpx
    obtain ⟨hx1, hx2, hr1, hr2⟩ := HME.out pre x hpx
    obtain ⟨g1, e1, d1, k1, k2⟩ := ob_at hi.r hr1
    cases e1
    clear k1 k2
    obtain ⟨g2, e2, d2, k1, k2⟩ := ob_at hi.r hr2
    cases e2
    clear k1 k2
    obtain ⟨g3, e3, d3, k1, k2⟩ := ob_at hi.l (led_at pre hx2)
    cases e3
    clear k1 k2
    have f3 := World.ownsRow.frozenAt (by have := hi.l; unfold Ob at this; rw [led_len] at this; exact this) x.2
    have b3 := hi.b3.cell
    have b4 := hi.b4.cell
    have HLY := Hid.mk' (led_yes (n := rs.length) (pre := pre) (x := x))
    have HLN := Hid.mk' (led_no (n := rs.length) (pre := pre) (x := x))
    have HPL := Hid.mk' (hi.putL x.2 true)
    have HI := Hid.mk' hi
    obtain ⟨x1, x2⟩ := x
    simp only at d1 d2 d3 f3 HPL hx1 hx2 HLY HLN ⊢
    have c1 : decide ((x1 : Int) < 0) = false := decide_eq_false (by omega)
    have c2 : decide ((rs.length : Int) ≤ (x1 : Int)) = false := decide_eq_false (by omega)
    have c3 : decide ((x2 : Int) < 0) = false := decide_eq_false (by omega)
    have c4 : decide ((rs.length : Int) ≤ (x2 : Int)) = false := decide_eq_false (by omega)
    have c5 : decide (rs.length ≤ x1) = false := decide_eq_false (by omega)
    have c6 : decide (rs.length ≤ x2) = false := decide_eq_false (by omega)
    have hx1i : (x1 : Int) < (rs.length : Int) := by omega
    have hx2i : (x2 : Int) < (rs.length : Int) := by omega
    clear hi hpx hr1 hr2
    generalize (pre.any fun e => e.2 == x2 && e.1 != e.2) = ob at *
    by_cases hne : x1 = x2
    · have q : ((x1 : Int) != (x2 : Int)) = false := bne_no (by omega)
      have HNE := Hid.mk' hne
      clear hne
      gi_wp2
      refine ⟨keepsFrom_refl' _ _, kpE_refl _ _ _ _, ?_⟩
      show CI w #[.string fn, .slice fpa fps.length fpc, .int .i64 frg, .int .i64 fwd, .slice fca fl.length fcc] rs.length G (G + 1 + 1) (G + 1) (.slice (some ⟨gc, 0, none⟩) rs.length rc) rs (led rs.length (pre ++ [(x1, x2)])) _
      rw [HLN.out HNE.out]
      exact HI.out
    · have q : ((x1 : Int) != (x2 : Int)) = true := bne_of (by omega)
      have HNE := Hid.mk' hne
      clear hne
      gi_wp2
      refine ⟨(KeepsOthers.setCell W _ _).from _, kpE_set (.inl (by omega)) (by omega) _ _, ?_⟩
      show CI w #[.string fn, .slice fpa fps.length fpc, .int .i64 frg, .int .i64 fwd, .slice fca fl.length fcc] rs.length G (G + 1 + 1) (G + 1) (.slice (some ⟨gc, 0, none⟩) rs.length rc) rs (led rs.length (pre ++ [(x1, x2)])) _
      rw [HLY.out HNE.out]
      exact HPL.out
  case done =>
    rintro W4 hi4 hK4
    have HCS : Hid (∀ W, Below W4.heap.size W4 W → CI w #[.string fn, .slice fpa fps.length fpc, .int .i64 frg, .int .i64 fwd, .slice fca fl.length fcc] rs.length G (G + 1 + 1) (G + 1) (.slice (some ⟨gc, 0, none⟩) rs.length rc) rs (led rs.length (edg fl rs)) W ∧ W.heap[W3.heap.size]? = some (.deferred (some []))) := fun W hb => ⟨hi4.stay hb, blk_stay hK4 hb⟩
    have hs4 : W3.heap.size < W4.heap.size := (Array.getElem?_eq_some_iff.1 hK4).1
    have b3 := hi4.b3.cell
    have hrl := HRL.out
    have hmk : ∀ W, _ := fun W => run_mkB W rs.length (by omega)
    have bo := Below.one (Below.refl _ W4) (.cells (mkB rs.length) 4)
    have hfb := (HCS.out _ bo).1.fb
    have z0 := cell_of_obj hfb (j := 0) (v := .string fn) rfl
    have z1 := cell_of_obj hfb (j := 1) (v := .slice fpa fps.length fpc) rfl
    have z2 := cell_of_obj hfb (j := 2) (v := .int .i64 frg) rfl
    have z3 := cell_of_obj hfb (j := 3) (v := .int .i64 fwd) rfl
    have z4 := cell_of_obj hfb (j := 4) (v := .slice fca fl.length fcc) rfl
    have HMK := Hid.mk' (own_mkB W4 rs.length (by omega))
    have HBO := Hid.mk' bo
    have HLED := Hid.mk' (fun v => led_all HIR.out (v := v))
    have HOUT := Hid.mk' (fun v => blk_out (l := fl) (rs := rs) (v := v))
    have HBZ := Hid.mk' (blk_zero (l := fl) HZR.out)
    have HBM := Hid.mk' (fun v => (blk_mem (l := fl) (rs := rs) (v := v)).1)
    have HBR := Hid.mk' (fun i x y => blk_rise (l := fl) (rs := rs) (i := i) (x := x) (y := y))
    have HBLN : Hid ((blk fl rs).length ≤ 1024) := Nat.le_trans (bls_len _ _) hrl
    clear hi4 hK4 I0 HSQ bo hfb hq0 hq1 HME
    gi_wp2_with fail
    refine ⟨trivial, ?_⟩
    refine (callsIn_wide.2 (HBL.out _ (HCS.out _ HBO.out).1.b)).mono ?_
    rintro e W6 ⟨v8, rs8, rfl, hir8, on8, bb6⟩
    have e8 := hir8.one HIR.out
    rw [e8] at on8
    clear e8
    obtain ⟨a8, c8, rfl⟩ := gown_form on8
    have HB6 := Hid.mk' (Below.on HBO.out bb6)
    have HO6 : Hid (On W4.heap.size (blk fl rs) (.slice a8 (blk fl rs).length c8) W6) := own_mono on8 (by simp)
    have HG6 : Hid (Ob W4.heap.size (bgs rs.length []) (.slice (some ⟨W4.heap.size, 0, none⟩) rs.length rs.length) W6) := by rw [bgs_nil]; exact own_stay HMK.out bb6
    clear hir8 on8 bb6 z0 z1 z2 z3 z4 hmk HMK HBO b3 HBL
    generalize blk fl rs = bl at *
    gi_wp2_with fail
    refine wpIn_wide.2 ?_
    go_loopw [9] (fun t9 wr => ∃ k : Nat, t9 = .int .i64 (k : Int) ∧ k ≤ bl.length ∧ Below W4.heap.size W4 wr ∧ On W4.heap.size bl (.slice a8 bl.length c8) wr ∧ Ob W4.heap.size (bgs rs.length (bl.take k)) (.slice (some ⟨W4.heap.size, 0, none⟩) rs.length rs.length) wr) (fun t9 _ => bl.length - (intOf t9).toNat)
    case atStart => exact ⟨0, rfl, Nat.zero_le _, HB6.out, HO6.out, HG6.out⟩
    case round =>
      obtain ⟨k, rfl, hk, hbr, hon, hob⟩ := hrel
      have HBW := Hid.mk' hbr
      have HON := Hid.mk' hon
      have HOB := Hid.mk' hob
      have hbl := HBLN.out
      clear hbr hon hob HB6 HO6 HG6
      by_cases hkl : k < bl.length
      · obtain ⟨x, hx⟩ : ∃ x, bl[k]? = some x := ⟨_, List.getElem?_eq_getElem hkl⟩
        obtain ⟨hxl, hxr, _⟩ := HBM.out x (List.mem_of_getElem? hx)
        obtain ⟨g8, rfl, d0, k1, k2⟩ := on_at HON.out hx
        clear k1 k2
        have HCI := Hid.mk' (HCS.out _ HBW.out).1
        obtain ⟨g1, e1, d1, k1, k2⟩ := ob_at HCI.out.r hxr
        cases e1
        clear k1 k2
        obtain ⟨g2, e2, d2, k1, k2⟩ := ob_at HOB.out (bgs_at (bl.take k) hxl)
        cases e2
        clear k1 k2
        have f2 := World.ownsRow.frozenAt (by have := HOB.out; unfold Ob at this; rw [bgs_len] at this; exact this) x
        have b3 := HCI.out.b3.cell
        have HT : Hid (bl.take (k + 1) = bl.take k ++ [x]) := by
          obtain ⟨h1, h2⟩ := List.getElem?_eq_some_iff.1 hx
          show _ = _
          rw [List.take_succ_eq_append_getElem h1, h2]
        have HSN := Hid.mk' (bgs_snoc (n := rs.length) (bl.take k) x)
        have hkli : (k : Int) < (bl.length : Int) := by omega
        have hxli : (x : Int) < (rs.length : Int) := by omega
        have c1 : decide ((x : Int) < 0) = false := decide_eq_false (by omega)
        have c2 : decide ((rs.length : Int) ≤ (x : Int)) = false := decide_eq_false (by omega)
        have c3 : decide (rs.length ≤ x) = false := decide_eq_false (by omega)
        generalize decide (x ∈ bl.take k) = ob at *
        clear hxl hxr
        have HX := Hid.mk' hx
        clear hx
        have HPB : Hid (∀ n, Below W4.heap.size W4 ((wr.drewN n).setCell ⟨W4.heap.size, x, none⟩ (.bool true))) := fun n => (HBW.out.drewN n).setCell (Nat.le_refl _) _
        have HPN : Hid (∀ n, On W4.heap.size bl (.slice (some ⟨g8, 0, none⟩) bl.length c8) ((wr.drewN n).setCell ⟨W4.heap.size, x, none⟩ (.bool true))) := fun n => by
          have hb : Below wr.heap.size wr (wr.drewN n) := Below.drewN (Below.refl _ wr) n
          obtain ⟨cur, hc, _⟩ := own_blk (own_stay HOB.out hb)
          exact own_set (own_stay HON.out hb) hc (by decide) _ _
        have HPO : Hid (∀ n, Ob W4.heap.size ((bgs rs.length (bl.take k)).set x true) (.slice (some ⟨W4.heap.size, 0, none⟩) rs.length rs.length) ((wr.drewN n).setCell ⟨W4.heap.size, x, none⟩ (.bool true))) := fun n => ob_put (own_stay HOB.out (Below.drewN (Below.refl _ wr) n)) x true
        by_cases hk0 : k = 0
        · have q0 : decide (0 < k) = false := decide_eq_false (by omega)
          have q1 : decide ((0 : Int) < (k : Int)) = false := decide_eq_false (by omega)
          clear hk0
          go_upto_region 21 with fail
          go_quiet (fail)
          go_wp2_with fail
          go_roundw
          case rel => exact ⟨k + 1, by go_num, hkl, HPB.out _, HPN.out _, by rw [HT.out, HSN.out]; exact HPO.out _⟩
          case measure => simp [intOf]; omega
        · have q0 : decide (0 < k) = true := decide_eq_true (by omega)
          have q1 : decide ((0 : Int) < (k : Int)) = true := decide_eq_true (by omega)
          obtain ⟨y, hy⟩ : ∃ y, bl[k - 1]? = some y := ⟨_, List.getElem?_eq_getElem (by omega)⟩
          have hlt := HBR.out (k - 1) y x hy (by rw [show k - 1 + 1 = k by omega]; exact HX.out)
          obtain ⟨g9, e9, d9, k1, k2⟩ := on_at HON.out hy
          cases e9
          clear k1 k2
          have q2 : decide ((x : Int) ≤ (y : Int)) = false := decide_eq_false (by omega)
          have q3 : decide (x ≤ y) = false := decide_eq_false (by omega)
          obtain ⟨j, hj⟩ : ∃ j : Nat, k - 1 = j := ⟨_, rfl⟩
          rw [hj] at d9
          have q4 : IntKind.i64.wrap ((k : Int) - 1) = (j : Int) := by rw [IntKind.wrap_i64]; omega
          have q5 : wrap64 ((k : Int) - 1) = (j : Int) := by unfold wrap64; omega
          have q6 : (k : Int) - 1 = (j : Int) := by omega
          have q7 : (j : Int) < (bl.length : Int) := by omega
          have Q6 := Hid.mk' q6
          clear hk0 hy hlt hj q6
          go_upto_region 21 with fail
          go_quiet (fail)
          go_wp2_with fail
          go_roundw
          case rel => exact ⟨k + 1, by go_num, hkl, HPB.out _, HPN.out _, by rw [HT.out, HSN.out]; exact HPO.out _⟩
          case measure => simp [intOf]; omega
      · have HBG : Hid (Ob W4.heap.size (bgs rs.length bl) (.slice (some ⟨W4.heap.size, 0, none⟩) rs.length rs.length) wr) := by
          have := HOB.out
          rw [List.take_of_length_le (by omega)] at this
          exact this
        have HCI := Hid.mk' (HCS.out _ HBW.out).1
        have HDF := Hid.mk' (HCS.out _ HBW.out).2
        obtain ⟨Wo, hWo⟩ : ∃ Wo, Wo = wr := ⟨_, rfl⟩
        subst hWo
        have HBB := Hid.mk' (Below.refl Wo.heap.size Wo)
        have hsz := HBW.out.size
        have HLS : Hid (W3.heap.size < Wo.heap.size) := (by omega : _ < _)
        have hkli : ¬ (k : Int) < (bl.length : Int) := by omega
        clear HON HOB hkl hk HCS
        go_wp2_with fail
        gi_wp2_with fail
        refine wpIn_wide.2 ?_
        go_loopw [10] (fun t10 wr => ∃ v : Nat, t10 = .int .i64 (v : Int) ∧ v ≤ rs.length ∧ Below Wo.heap.size Wo wr) (fun t10 _ => rs.length - (intOf t10).toNat)
        case atStart => exact ⟨0, rfl, Nat.zero_le _, HBB.out⟩
        case round =>
          obtain ⟨v, rfl, hv, hbr⟩ := hrel
          have HBR2 := Hid.mk' hbr
          have HC2 := Hid.mk' (HCI.out.stay hbr)
          have HG2 := Hid.mk' (own_stay HBG.out hbr)
          have b3 := HC2.out.b3.cell
          have b4 := HC2.out.b4.cell
          have hrl := HRL.out
          clear hbr HBB
          by_cases hvl : v < rs.length
          · obtain ⟨bv, hbv⟩ : ∃ b, rs[v]? = some b := ⟨_, List.getElem?_eq_getElem hvl⟩
            obtain ⟨g1, e1, d0, k1, k2⟩ := ob_at HC2.out.r hbv
            cases e1
            clear k1 k2
            have hvli : (v : Int) < (rs.length : Int) := by omega
            have HBV := Hid.mk' hbv
            clear hbv
            cases bv
            · go_wp2_with fail
              go_roundw
              case rel => exact ⟨v + 1, by go_num, hvl, HBR2.out⟩
              case measure => simp [intOf]; omega
            by_cases hv0 : v = 0
            · have q0 : decide (0 < v) = false := decide_eq_false (by omega)
              have q1 : decide ((0 : Int) < (v : Int)) = false := decide_eq_false (by omega)
              have q2 : ((v : Int) == 0) = true := by rw [beq_iff_eq]; omega
              obtain ⟨g2, e2, d1, k1, k2⟩ := ob_at HG2.out (j := 0) (k := true) (by rw [bgs_at bl (by omega), decide_eq_true HBZ.out])
              cases e2
              clear k1 k2
              have d2 : wr.cell? ⟨W4.heap.size, v, none⟩ = some (.bool true) := by rw [hv0]; exact d1
              clear hv0
              go_wp2_with fail
              go_roundw
              case rel => exact ⟨v + 1, by go_num, hvl, HBR2.out⟩
              case measure => simp [intOf]; omega
            have q0 : decide (0 < v) = true := decide_eq_true (by omega)
            have q1 : decide ((0 : Int) < (v : Int)) = true := decide_eq_true (by omega)
            have q2 : ((v : Int) == 0) = false := beq_no (by omega)
            obtain ⟨g2, e2, d1, k1, k2⟩ := ob_at HC2.out.l (HLED.out v HBV.out hv0)
            cases e2
            clear k1 k2
            obtain ⟨g3, e3, d2, k1, k2⟩ := ob_at HG2.out (bgs_at bl hvl)
            cases e3
            clear k1 k2
            by_cases hin : v ∈ bl
            · rw [decide_eq_true hin] at d2
              clear hin
              go_wp2_with fail
              go_roundw
              case rel => exact ⟨v + 1, by go_num, hvl, HBR2.out⟩
              case measure => simp [intOf]; omega
            rw [decide_eq_false hin] at d2
            obtain ⟨_, hr1, hnx⟩ := HOUT.out v HBV.out hin
            have HNX := Hid.mk' (HN.out (v - 1) _ HC2.out.b)
            rw [hnx] at HNX
            obtain ⟨j, hj⟩ : ∃ j : Nat, v - 1 = j := ⟨_, rfl⟩
            rw [hj] at hr1 HNX
            obtain ⟨g4, e4, d3, k1, k2⟩ := ob_at HC2.out.r hr1
            cases e4
            clear k1 k2
            have q4 : IntKind.i64.wrap ((v : Int) - 1) = (j : Int) := by rw [IntKind.wrap_i64]; omega
            have q5 : wrap64 ((v : Int) - 1) = (j : Int) := by unfold wrap64; omega
            have q6 : (v : Int) - 1 = (j : Int) := by omega
            have q7 : (j : Int) < (rs.length : Int) := by omega
            have z0 := cell_of_obj HC2.out.fb (j := 0) (v := .string fn) rfl
            have z1 := cell_of_obj HC2.out.fb (j := 1) (v := .slice fpa fps.length fpc) rfl
            have z2 := cell_of_obj HC2.out.fb (j := 2) (v := .int .i64 frg) rfl
            have z3 := cell_of_obj HC2.out.fb (j := 3) (v := .int .i64 fwd) rfl
            have z4 := cell_of_obj HC2.out.fb (j := 4) (v := .slice fca fl.length fcc) rfl
            clear hv0 hin hr1 hnx hj
            go_wp2_with fail
            refine HNX.out.mono ?_
            rintro e W8 ⟨v8, rfl, on8, bb8⟩
            obtain ⟨a9, c9, rfl⟩ := gown_form on8
            have HS8 := Hid.mk' (sameInts_any [v] [v] a9 (some ⟨W8.heap.size, 0, none⟩) c9 1 _ ((own_lst on8).stay (Below.one (Below.refl _ W8) (.cells #[.int .i64 (v : Int)] 3))) (lst_new W8 #[.int .i64 (v : Int)] 3 _ rfl) (by simp))
            rw [decide_eq_true rfl] at HS8
            have HB8 := Hid.mk' (Below.on HBR2.out (Below.one bb8 (.cells #[.int .i64 (v : Int)] 3)))
            clear on8 bb8 z0 z1 z2 z3 z4 d0 d1 d2 d3
            go_wp2_with fail
            refine HS8.out.mono ?_
            rintro e W9 ⟨rfl, bb9⟩
            go_wp2_with fail
            go_roundw
            case rel => exact ⟨v + 1, by go_num, hvl, Below.on HB8.out bb9⟩
            case measure => simp [intOf]; omega
          · have hvli : ¬ (v : Int) < (rs.length : Int) := by omega
            have e2 := HC2.out.rb.cell
            have f2 := HC2.out.rb.frozen
            have HKA := Hid.mk' (blk_stay HDF.out HBR2.out)
            go_wp2_with fail
            gi_wp2
            have hKZ := (KeepsOthers.setCell wr ⟨w.heap.size + 1, 0, none⟩ (.bool true)).same _ _ HKA.out rfl
            have z6 := HC2.out.rb.set (.bool true)
            refine ⟨by simp, .inl ⟨_, _, rfl, run_takeDeferred hKZ, ?_⟩⟩
            have c6 := (put_boxed z6 (.deferred none) hKZ rfl).cell
            refine ⟨.bool true, by simp [results, Try.results7, go_sem, c6], rfl, ?_⟩
            exact (HC2.out.b.setCell (by simp only; omega) _).trans (belowK_b (w := w) (Nat.le_refl _) _ _ _ _ (by omega) hKZ rfl rfl)
theorem flowCloses_any (f : Fn) (w : World) (hi : Iss w f.ca f.code) (hc : f.code.length ≤ f.cc) : Calls Try.prog 7 #[f.val] w fun e w' => e = .returned (.bool true) ∧ Below w.heap.size w w' := callsIn_wide.1 (closes_in f w hi hc)
end Go.Proofs.Ytoabnkidfapniaa
