/- AsmParses: the law's walk. -/
import Derived.Test.YtboidkmnkicoeaaGreatDoorJv
import Derived.Test.YtboidkmnkicoeaaGreatDoorVi
namespace Go.Proofs.YtboidkmnkicoeaaGreatDoor
open Go.RowKit Go.Sort

set_option maxRecDepth 100000 in
set_option maxHeartbeats 16000000 in
theorem asmParses_any (s : Bt) (hs : s.length ≤ 10000000) (hrp : ∀ w, Calls Tryz.prog 5 #[.string (tb s)] w (PaR w s)) (w : World) (h : Env w) : Calls Tryz.prog 3 #[.string (tb s)] w fun e w' => e = .returned (.bool true) ∧ Below w.heap.size w w' := by
  have HP : Hid (∀ w', Below w.heap.size w w' → Calls Tryz.prog 4 #[.string (tb s)] w' (PaQ w' s)) := fun w' hb => parse_full s (by omega) w' (h.stay hb)
  have HR : Hid (∀ w', Calls Tryz.prog 5 #[.string (tb s)] w' (PaR w' s)) := hrp
  have HF : Hid (∀ w', Below w.heap.size w w' → Calls Tryz.prog 7 #[] w' fun e w'' => e = .returned (.bool true) ∧ Below w'.heap.size w' w'') := fun w' hb => fixed_any w' (h.stay hb)
  have HS : Hid (∀ (q q' : Mo) w', samM q q' = true → q.In w' → q'.In w' → Calls Tryz.prog 6 #[q.val, q'.val] w' fun e w'' => e = .returned (.bool true) ∧ Below w'.heap.size w' w'') := fun q q' w' he h h' => by
    have := rsame_any q q' w' h h'
    rwa [he] at this
  have HP1 := Hid.mk' (HP.out w (Below.refl _ _))
  clear h hs hrp
  unfold PaQ PaR at *
  generalize hpe : (parZ s).e = pe at *
  generalize (parZ s).line = pl at *
  generalize (parZ s).at_ = pt at *
  go_enter Tryz.func3, Tryz.ntmps3
  go_wp2_with fail
  refine HP1.out.mono ?_
  rintro e W1 ⟨bb1, m, rfl, hmi, hm1, hm2, hmo⟩
  have bo1 := Below.one (Below.refl _ W1) (.cells (moC m) 25)
  have HX0 := Hid.mk' (heap_alloc_new W1 (.cells (moC m) 25))
  have HR1 := Hid.mk' (HR.out (W1.alloc (.cells (moC m) 25)))
  have HB1 := Hid.mk' bb1
  have HMO := Hid.mk' hmo
  have HMI := Hid.mk' hmi
  have HLN : Hid (m.funcs.length ≤ 1759218604392) := by
    show m.funcs.length ≤ 1759218604392
    have := hmi.2.2.1.1
    omega
  have HMS := Hid.mk' (And.intro hm1 hm2)
  have HBO := Hid.mk' bo1
  clear HP1 HR bb1 hmi hm1 hm2 hmo bo1
  unfold Mo.val
  go_wp2_with fail
  refine HR1.out.mono ?_
  rintro e W2 ⟨bb2, n, rfl, hni, hn1, hn2, hnn⟩
  rw [World.size_alloc] at hnn
  have bo2 := Below.one bb2 (.cells (moC n) 25)
  have bo3 := Below.one (Below.refl _ W2) (.cells (moC n) 25)
  have HXN := Hid.mk' (heap_alloc_new W2 (.cells (moC n) 25))
  have HB13 := Hid.mk' (Below.on HBO.out bo2)
  have HXM := Hid.mk' (blk_stay HX0.out bo2)
  have HNI := Hid.mk' (hni.stay bo3)
  have HNN := Hid.mk' (hnn.low (Nat.le_succ _))
  have HNS := Hid.mk' (And.intro hn1 hn2)
  have HSM : Hid (samM m n = true) := by
    show samM m n = true
    subst hpe
    exact par_same HMS.out.1 HMS.out.2 hn1 hn2
  have HS1 := Hid.mk' (HS.out m n _ HSM.out (HMI.out.stay HB13.out) HNI.out)
  have x0 := cell_of_obj HXM.out (j := 0) (v := .slice m.ta m.ths.length m.tc) rfl
  have x1 := cell_of_obj HXM.out (j := 1) (v := .slice m.fa m.funcs.length m.fc) rfl
  have y0 := cell_of_obj HXN.out (j := 0) (v := .slice n.ta n.ths.length n.tc) rfl
  have y1 := cell_of_obj HXN.out (j := 1) (v := .slice n.fa n.funcs.length n.fc) rfl
  have hXN : W1.heap.size ≤ W2.heap.size := by have := bb2.size; simp at this; omega
  have HXL := Hid.mk' hXN
  clear HR1 bb2 hni hn1 hn2 hnn bo2 bo3 HX0 HBO HMI hXN
  unfold Mo.val at HS1 ⊢
  go_wp2_with fail
  generalize W2.heap.size = XN at *
  generalize W2.alloc (.cells (moC n) 25) = W2b at *
  refine HS1.out.mono ?_
  rintro e W2c ⟨rfl, bb3⟩
  have HB2c := Hid.mk' (Below.on HB13.out bb3)
  have HBw := Hid.mk' (HB1.out.trans (HB2c.out.mono HB1.out.size))
  clear HS1 x0 x1 y0 y1
  go_wp2_with fail
  refine (HF.out _ HBw.out).mono ?_
  rintro e W3 ⟨rfl, bb4⟩
  have HB3 := Hid.mk' (Below.on HB2c.out bb4)
  replace HXM := Hid.mk' (blk_stay (blk_stay HXM.out bb3) bb4)
  replace HXN := Hid.mk' (blk_stay (blk_stay HXN.out bb3) bb4)
  replace HNI := Hid.mk' ((HNI.out.stay bb3).stay bb4)
  obtain ⟨C0, Q0, hla0⟩ : ∃ C0 Q0, LA w W1.heap.size W3 m C0 Q0 W3 := ⟨_, _, LA.start HMO.out HB1.out HB3.out⟩
  have HLA := Hid.mk' hla0
  clear hla0
  clear bb3 bb4 HB2c HB13 HBw HF HMO HB1 HB3
  generalize W1.heap.size = H at *
  go_wp2_with fail
  go_loopw [12] (fun t12 wr => ∃ (i : Nat) (C : Nat → List Is) (Q : Nat → List Sp), i ≤ m.funcs.length ∧ t12 = .int .i64 i ∧ LA w H W3 m C Q wr ∧ ∀ j, j < i → DoneC C j ∧ DoneQ Q j) (fun t12 _ => m.funcs.length - (intOf t12).toNat)
  case atStart => exact ⟨0, C0, Q0, Nat.zero_le _, rfl, HLA.out, fun j hj => absurd hj (Nat.not_lt_zero _)⟩
  case round =>
    obtain ⟨i, C, Q, hi, rfl, hla, hdn⟩ := hrel
    clear HLA
    have xm1 := cell_of_obj (hla.box HXM.out (Nat.le_refl _)) (j := 1) (v := .slice m.fa m.funcs.length m.fc) rfl
    by_cases hlt : i < m.funcs.length
    · have hli : (i : Int) < (m.funcs.length : Int) := by omega
      have hln := HLN.out
      obtain ⟨g, hg⟩ : ∃ g, m.funcs[i]? = some g := ⟨_, List.getElem?_eq_getElem hlt⟩
      obtain ⟨gf, hfa, hfc⟩ := hla.fn hg
      have f0 := hfc 0 (.string g.name) rfl
      rw [Nat.add_zero] at f0
      have f1 := hfc 1 (.slice g.pa g.params.length g.pc) rfl
      have f2 := hfc 2 (.int .i64 g.regs) rfl
      have f3 := hfc 3 (.int .i64 g.words) rfl
      have f4 := hfc 4 (.slice g.ca g.code.length g.cc) rfl
      rw [hfa] at xm1
      have bo := Below.one (Below.refl _ wr) (.cells (fC g) 34)
      have HG := Hid.mk' (heap_alloc_new wr (.cells (fC g) 34))
      have HLA := Hid.mk' (hla.stay bo)
      have HGH : Hid (W3.heap.size ≤ wr.heap.size) := hla.sz
      have HDN := Hid.mk' hdn
      have HGE := Hid.mk' hg
      have hgl := (hla.gl i g hg).2
      have hpl := (hla.gl i g hg).1
      have HHW : Hid (H < W3.heap.size) := (Array.getElem?_eq_some_iff.1 HXM.out).1
      clear hla hdn hfa hfc bo hg hi
      go_wp2_with fail
      clear xm1 f0 f1 f2 f3 f4
      generalize wr.heap.size = G at *
      generalize wr.alloc (.cells (fC g) 34) = V0 at *
      go_loopw [14] (fun t14 wr => ∃ (k : Nat) (C' : Nat → List Is), k ≤ g.code.length ∧ t14 = .int .i64 k ∧ LA w H W3 m C' Q wr ∧ wr.heap[G]? = some (.cells (fC g) 34) ∧ (∀ j, j < i → DoneC C' j) ∧ ∀ q, q < k → (C' i)[q]? = some (jm i)) (fun t14 _ => g.code.length - (intOf t14).toNat)
      case atStart => exact ⟨0, C, Nat.zero_le _, rfl, HLA.out, HG.out, fun j hj => (HDN.out j hj).1, fun q hq => absurd hq (Nat.not_lt_zero _)⟩
      case round =>
        obtain ⟨k, C', hk, rfl, hla, hgb, hdc, hck⟩ := hrel
        clear HLA HG
        by_cases hlt2 : k < g.code.length
        · have hlk : (k : Int) < (g.code.length : Int) := by omega
          obtain ⟨gb, cur, hca, hb, hN, hH, hcells⟩ := hla.codeAt HGE.out hlt2
          have hcl := (hla.c i g HGE.out).2
          have c0 := hcells (by omega) 0 _ rfl
          rw [Nat.add_zero] at c0
          have c1 := hcells (by omega) 1 _ rfl
          have c2 := hcells (by omega) 2 _ rfl
          have c3 := hcells (by omega) 3 _ rfl
          have c4 := hcells (by omega) 4 _ rfl
          have zz := fun j => Lib.frozen_of_heap hb j
          have HLA := Hid.mk' (hla.code HGE.out hlt2 hca hb hN hH (jm i))
          have HG : Hid (_) := (put5_ne wr gb (k * 5) (.int .i64 14) (.int .i64 0) (.int .i64 0) (.int .i64 0) (.int .i64 (i : Int)) G (by have := HGH.out; have := HHW.out; omega)).trans hgb
          have gx4 := cell_of_obj hgb (j := 4) (v := .slice g.ca g.code.length g.cc) rfl
          rw [hca] at gx4
          have HDC : Hid (∀ j, j < i → DoneC (updF C' i ((C' i).set k (jm i))) j) := fun j hj => by
            unfold DoneC
            rw [upd_ne _ _ (by omega)]
            exact hdc j hj
          have HCK : Hid (∀ q, q < k + 1 → (updF C' i ((C' i).set k (jm i)) i)[q]? = some (jm i)) := by
            show ∀ q, _
            rw [upd_same]
            exact set_more hck (by omega)
          generalize (C' i)[k] = y at *
          clear hla hgb hdc hck hca hb hcells hcl
          go_wp2_with fail
          go_roundw
          case rel => exact ⟨k + 1, _, by omega, by go_num, HLA.out, HG.out, HDC.out, HCK.out⟩
          case measure => simp [intOf]; omega
        · have HLA := Hid.mk' hla
          have HG := Hid.mk' hgb
          have hcl := (hla.c i g HGE.out).2
          have HDC := Hid.mk' (done_next (P := DoneC C') hdc (fun q hq => hck q (by omega)))
          clear hcl
          have gx4 := cell_of_obj hgb (j := 4) (v := .slice g.ca g.code.length g.cc) rfl
          clear hla hgb hdc hck
          go_wp2_with fail
          clear gx4
          go_loopw [15] (fun t15 wr => ∃ (k : Nat) (Q' : Nat → List Sp), k ≤ g.params.length ∧ t15 = .int .i64 k ∧ LA w H W3 m C' Q' wr ∧ wr.heap[G]? = some (.cells (fC g) 34) ∧ (∀ j, j < i → DoneQ Q' j) ∧ ∀ q, q < k → (Q' i)[q]? = some (sn i)) (fun t15 _ => g.params.length - (intOf t15).toNat)
          case atStart => exact ⟨0, Q, Nat.zero_le _, rfl, HLA.out, HG.out, fun j hj => (HDN.out j hj).2, fun q hq => absurd hq (Nat.not_lt_zero _)⟩
          case round =>
            obtain ⟨p, Q', hp, rfl, hla, hgb, hdq, hqk⟩ := hrel
            clear HLA HG
            by_cases hlt3 : p < g.params.length
            · have hlp : (p : Int) < (g.params.length : Int) := by omega
              obtain ⟨gb, cur, hpa, hb, hN, hH, hcells⟩ := hla.parAt HGE.out hlt3
              have hql := (hla.q i g HGE.out).2
              have c0 := hcells (by omega) 0 _ rfl
              rw [Nat.add_zero] at c0
              have c1 := hcells (by omega) 1 _ rfl
              have zz := fun j => Lib.frozen_of_heap hb j
              have HLA := Hid.mk' (hla.par HGE.out hlt3 hpa hb hN hH (sn i))
              have HG : Hid (_) := (put2_ne wr gb (p * 2) (.int .i64 (i : Int)) (.int .i64 3) G (by have := HGH.out; have := HHW.out; omega)).trans hgb
              have gx1 := cell_of_obj hgb (j := 1) (v := .slice g.pa g.params.length g.pc) rfl
              rw [hpa] at gx1
              have HDQ : Hid (∀ j, j < i → DoneQ (updF Q' i ((Q' i).set p (sn i))) j) := fun j hj => by
                unfold DoneQ
                rw [upd_ne _ _ (by omega)]
                exact hdq j hj
              have HQK : Hid (∀ q, q < p + 1 → (updF Q' i ((Q' i).set p (sn i)) i)[q]? = some (sn i)) := by
                show ∀ q, _
                rw [upd_same]
                exact set_more hqk (by omega)
              generalize (Q' i)[p] = y at *
              clear hla hgb hdq hqk hpa hb hcells hql
              go_wp2_with fail
              go_roundw
              case rel => exact ⟨p + 1, _, by omega, by go_num, HLA.out, HG.out, HDQ.out, HQK.out⟩
              case measure => simp [intOf]; omega
            · have HLA := Hid.mk' hla
              have hql := (hla.q i g HGE.out).2
              have HDQ := Hid.mk' (done_next (P := DoneQ Q') hdq (fun q hq => hqk q (by omega)))
              clear hql
              have gx1 := cell_of_obj hgb (j := 1) (v := .slice g.pa g.params.length g.pc) rfl
              clear hla hgb hdq hqk
              go_wp2_with fail
              go_roundw
              case rel => exact ⟨i + 1, C', Q', hlt, by go_num, HLA.out, fun j hj => ⟨HDC.out j hj, HDQ.out j hj⟩⟩
              case measure => simp [intOf]; omega
    · obtain rfl : i = m.funcs.length := by omega
      have HLA := Hid.mk' hla
      have HDN := Hid.mk' hdn
      clear hla hdn
      go_wp2_with fail
      clear xm1
      go_loopw [16, 17] (fun t16 t17 wr => ∃ (a rm : Nat), a ≤ m.funcs.length ∧ t17 = .int .i64 a ∧ t16 = .int .i64 rm ∧ a ≤ rm ∧ rm ≤ a * 2000 ∧ LA w H W3 m C Q wr) (fun _ t17 _ => m.funcs.length - (intOf t17).toNat)
      case atStart => exact ⟨0, 0, Nat.zero_le _, rfl, rfl, Nat.le_refl _, by omega, HLA.out⟩
      case round =>
        obtain ⟨a, rm, ha, rfl, rfl, hr1, hr2, hla⟩ := hrel
        clear HLA
        have xm1 := cell_of_obj (hla.box HXM.out (Nat.le_refl _)) (j := 1) (v := .slice m.fa m.funcs.length m.fc) rfl
        by_cases hlt : a < m.funcs.length
        · have hla1 : (a : Int) < (m.funcs.length : Int) := by omega
          obtain ⟨g, hg⟩ : ∃ g, m.funcs[a]? = some g := ⟨_, List.getElem?_eq_getElem hlt⟩
          obtain ⟨gf, hfa, hfc⟩ := hla.fn hg
          have f4 := hfc 4 (.slice g.ca g.code.length g.cc) rfl
          have hgl := hla.gl a g hg
          rw [hfa] at xm1
          have HAP := Hid.mk' (hla.more hg ⟨7, 0, 0, 0, 0⟩ 32)
          have hln := HLN.out
          have hgl1 := hgl.1
          have hgl2 := hgl.2
          clear hgl
          clear hla hfc hfa
          go_upto_region 23 with (at_builtin; go_loud (refine wplApp rfl _ _ 32 32 _ _ rfl rfl rfl HAP.out ?_); rintro v5 W5 ⟨⟨ad5, c5, rfl⟩, la5⟩)
          clear xm1 f4 HAP
          have xm1 := cell_of_obj (la5.box HXM.out (Nat.le_refl _)) (j := 1) (v := .slice m.fa m.funcs.length m.fc) rfl
          obtain ⟨gf, hfa, hfc⟩ := la5.fn hg
          have f1 := hfc 1 (.slice g.pa g.params.length g.pc) rfl
          rw [hfa] at xm1
          have HAP := Hid.mk' (la5.wide hg (9, 9) 31)
          clear la5 hfc hfa hg
          go_wp2_with (at_builtin; refine wplApp rfl _ _ 31 31 _ _ rfl rfl rfl HAP.out ?_; rintro v6 W6 ⟨⟨ad6, c6, rfl⟩, la6⟩)
          go_roundw
          case rel => exact ⟨a + 1, rm + (g.code.length + 1) + (g.params.length + 1), hlt, by go_num, by go_num, by omega, by omega, la6⟩
          case measure => simp [intOf]; omega
        · obtain rfl : a = m.funcs.length := by omega
          have hrl : ¬ (rm : Int) < (m.funcs.length : Int) := by omega
          have HLA := Hid.mk' hla
          clear hla hr1 hr2
          go_wp2_with fail
          clear xm1
          go_loopw [18] (fun t18 wr => ∃ (b : Nat), b ≤ m.funcs.length ∧ t18 = .int .i64 b ∧ LA w H W3 m C Q wr) (fun t18 _ => m.funcs.length - (intOf t18).toNat)
          case atStart => exact ⟨0, Nat.zero_le _, rfl, HLA.out⟩
          case round =>
            obtain ⟨b, hbl, rfl, hla⟩ := hrel
            clear HLA
            have xm1 := cell_of_obj (hla.box HXM.out (Nat.le_refl _)) (j := 1) (v := .slice m.fa m.funcs.length m.fc) rfl
            by_cases hlt : b < m.funcs.length
            · have hlb : (b : Int) < (m.funcs.length : Int) := by omega
              have hln := HLN.out
              obtain ⟨g, hg⟩ : ∃ g, m.funcs[b]? = some g := ⟨_, List.getElem?_eq_getElem hlt⟩
              obtain ⟨gf, hfa, hfc⟩ := hla.fn hg
              have f0 := hfc 0 (.string g.name) rfl
              rw [Nat.add_zero] at f0
              have f1 := hfc 1 (.slice g.pa g.params.length g.pc) rfl
              have f2 := hfc 2 (.int .i64 g.regs) rfl
              have f3 := hfc 3 (.int .i64 g.words) rfl
              have f4 := hfc 4 (.slice g.ca g.code.length g.cc) rfl
              rw [hfa] at xm1
              have bo := Below.one (Below.refl _ wr) (.cells (fC g) 34)
              have HG := Hid.mk' (heap_alloc_new wr (.cells (fC g) 34))
              have HLA := Hid.mk' (hla.stay bo)
              have HDB := Hid.mk' (HDN.out b hlt)
              have HGE := Hid.mk' hg
              have hgl := (hla.gl b g hg).2
              have hpl := (hla.gl b g hg).1
              clear hla hfa hfc bo hg
              go_wp2_with fail
              clear xm1 f0 f1 f2 f3 f4
              generalize wr.heap.size = G at *
              generalize wr.alloc (.cells (fC g) 34) = V0 at *
              go_loopw [20] (fun t20 wr => ∃ (k : Nat), k ≤ g.code.length ∧ t20 = .int .i64 k ∧ wr = V0) (fun t20 _ => g.code.length - (intOf t20).toNat)
              case atStart => exact ⟨0, Nat.zero_le _, rfl, rfl⟩
              case round =>
                obtain ⟨k, hk, rfl, rfl⟩ := hrel
                by_cases hlt2 : k < g.code.length
                · have hlk : (k : Int) < (g.code.length : Int) := by omega
                  obtain ⟨gb, cur, hca, hb, hN, hH, hcells⟩ := HLA.out.codeAt HGE.out hlt2
                  have hcl := (HLA.out.c b g HGE.out).2
                  have hjm : (C b)[k]'(by omega) = jm b := done_at HDB.out.1 (by omega)
                  have c0 := hcells (by omega) 0 (.int .i64 14) (by rw [hjm]; rfl)
                  rw [Nat.add_zero] at c0
                  have c1 := hcells (by omega) 1 (.int .i64 0) (by rw [hjm]; rfl)
                  have c2 := hcells (by omega) 2 (.int .i64 0) (by rw [hjm]; rfl)
                  have c3 := hcells (by omega) 3 (.int .i64 0) (by rw [hjm]; rfl)
                  have c4 := hcells (by omega) 4 (.int .i64 (b : Int)) (by rw [hjm]; rfl)
                  have gx4 := cell_of_obj HG.out (j := 4) (v := .slice g.ca g.code.length g.cc) rfl
                  rw [hca] at gx4
                  have hq5 := fun w => eq_jm b w
                  have hg5 : ∀ (w : World) (op : BinOp) (a b : Operand) (xs ys : Array Value), (eqGuard op 36 a b (.agg xs) (.agg ys)).run Tryz.prog w = .ok () w := fun w op a b xs ys => run_eqGuard_agg w op 36 a b xs ys (by kernel_rfl)
                  clear hca hb hcells hcl hjm hN hH
                  go_wp2_with fail
                  go_roundw
                  case rel => exact ⟨k + 1, by omega, by go_num, trivial⟩
                  case measure => simp [intOf]; omega
                · have gx4 := cell_of_obj HG.out (j := 4) (v := .slice g.ca g.code.length g.cc) rfl
                  go_wp2_with fail
                  clear gx4
                  go_loopw [21] (fun t21 wq => ∃ (p : Nat), p ≤ g.params.length ∧ t21 = .int .i64 p ∧ wq = wr) (fun t21 _ => g.params.length - (intOf t21).toNat)
                  case atStart => exact ⟨0, Nat.zero_le _, rfl, rfl⟩
                  case round =>
                    obtain ⟨p, hp, rfl, rfl⟩ := hrel
                    by_cases hlt3 : p < g.params.length
                    · have hlp : (p : Int) < (g.params.length : Int) := by omega
                      obtain ⟨gb, cur, hpa, hb, hN, hH, hcells⟩ := HLA.out.parAt HGE.out hlt3
                      have hql := (HLA.out.q b g HGE.out).2
                      have hjm : (Q b)[p]'(by omega) = sn b := done_at HDB.out.2 (by omega)
                      have c0 := hcells (by omega) 0 (.int .i64 (b : Int)) (by rw [hjm]; rfl)
                      rw [Nat.add_zero] at c0
                      have c1 := hcells (by omega) 1 (.int .i64 3) (by rw [hjm]; rfl)
                      have gx1 := cell_of_obj HG.out (j := 1) (v := .slice g.pa g.params.length g.pc) rfl
                      rw [hpa] at gx1
                      have hq2 := fun w => eq_sn b w
                      have hg2 : ∀ (w : World) (op : BinOp) (a b : Operand) (xs ys : Array Value), (eqGuard op 38 a b (.agg xs) (.agg ys)).run Tryz.prog w = .ok () w := fun w op a b xs ys => run_eqGuard_agg w op 38 a b xs ys (by kernel_rfl)
                      clear hpa hb hcells hql hjm hN hH
                      go_wp2_with fail
                      go_roundw
                      case rel => exact ⟨p + 1, by omega, by go_num, trivial⟩
                      case measure => simp [intOf]; omega
                    · have gx1 := cell_of_obj HG.out (j := 1) (v := .slice g.pa g.params.length g.pc) rfl
                      go_wp2_with fail
                      go_roundw
                      case rel => exact ⟨b + 1, hlt, by go_num, HLA.out⟩
                      case measure => simp [intOf]; omega
            · have HPV := Hid.mk' (HP.out _ hla.b)
              have HLA := Hid.mk' hla
              clear hla HP
              go_wp2_with fail
              refine HPV.out.mono ?_
              rintro e W7 ⟨bb7, v, rfl, hvi, hv1, hv2, _⟩
              have b8 := Below.one bb7 (.cells (moC v) 25)
              have bo := Below.one (Below.refl _ W7) (.cells (moC v) 25)
              have HXV := Hid.mk' (heap_alloc_new W7 (.cells (moC v) 25))
              have HNW := Hid.mk' (in_keep HNI.out HNN.out HLA.out.k)
              have hxn := blk_stay (HLA.out.box HXN.out HXL.out) b8
              have HSV : Hid (samM v n = true) := by
                show samM v n = true
                subst hpe
                exact par_same hv1 hv2 HNS.out.1 HNS.out.2
              have HSS := Hid.mk' (HS.out v n _ HSV.out (hvi.stay bo) (HNW.out.stay b8))
              have HBF := Hid.mk' (HLA.out.b.trans (b8.mono HLA.out.b.size))
              have x0 := cell_of_obj HXV.out (j := 0) (v := .slice v.ta v.ths.length v.tc) rfl
              have x1 := cell_of_obj HXV.out (j := 1) (v := .slice v.fa v.funcs.length v.fc) rfl
              have y0 := cell_of_obj hxn (j := 0) (v := .slice n.ta n.ths.length n.tc) rfl
              have y1 := cell_of_obj hxn (j := 1) (v := .slice n.fa n.funcs.length n.fc) rfl
              unfold Mo.val at HSS ⊢
              clear bb7 hvi hv1 hv2 b8 bo hxn HS HPV
              go_wp2_with fail
              refine HSS.out.mono ?_
              rintro e W9 ⟨rfl, bb9⟩
              go_wp2_with fail
              go_ret
              exact ⟨rfl, HBF.out.trans (bb9.mono HBF.out.size)⟩
end Go.Proofs.YtboidkmnkicoeaaGreatDoor

/- AsmParses: for a text as it comes. -/
namespace Go.Proofs.YtboidkmnkicoeaaGreatDoor
open Go.RowKit

theorem asmParses_all (s : ByteArray) (hs : s.size ≤ 1048576) (w : World) (h : Env w) : Calls Tryz.prog 3 #[.string s] w fun e w' => e = .returned (.bool true) ∧ Below w.heap.size w w' := by
  have hl : s.data.toList.length ≤ 10000000 := by rw [Array.length_toList]; have : s.data.size = s.size := rfl; omega
  have := asmParses_any s.data.toList hl (fun w => rparse_any s.data.toList hl w) w h
  rwa [tb_of] at this
end Go.Proofs.YtboidkmnkicoeaaGreatDoor
