/- law.LoopsCount. -/
import Derived.Test.YtgiokognngllcaaDoorWv
import Derived.Test.YtgiokognngllcaaDoorWr
import Derived.Deep.QuietTactic
import Derived.BigQuiet
namespace Go.Proofs.YtgiokognngllcaaDoor
open Go.RowKit Go.Sort

theorem bks_app {W : World} {L : List Nat} {ba : Option Addr} {bc : Nat} (h : Lst W ba (L.map nV)) (hl : L.length ≤ 100000) (h0 : L ≠ []) (ty : TypeId) :
    ∃ v' W', (Builtin.append_ #[38, 38] ty #[.slice (some ⟨W.heap.size, 0, none⟩) 0 0, .slice ba L.length bc]).run Tryd.prog (W.alloc (.cells #[] 3)) = .ok v' W' ∧ On W.heap.size L v' W' ∧ Below W.heap.size W W' := by
  obtain ⟨i0, hi, hz0, hz1, hz2⟩ := info_parts Tryd.infoN
  have hb := Below.one (Below.refl W.heap.size W) (.cells #[] 3)
  have h' := h.stay hb
  obtain ⟨v', W', hr, h2, h3⟩ := run_append_ownS (P := Tryd.prog) (W.alloc (.cells #[] 3)) W.heap.size 38 ty 3 i0 (.int .i64 0) 1 8 Tryd.underlying38 hi hz0 hz1 hz2 rfl (by decide) (.slice (some ⟨W.heap.size, 0, none⟩) 0 0) 0 [] (row_new W 3 1) ba L.length bc (L.map nV) (by simp) (fun e => by
      subst e
      obtain ⟨x, xs, e⟩ := List.exists_cons_of_ne_nil h0
      obtain ⟨b, o, e2, _⟩ := h 0 (nV x) (by rw [e]; rfl)
      cases e2) (fun ad e j u hu => by
      obtain ⟨b, o, e2, hc⟩ := h' j u hu
      rw [e] at e2
      cases e2
      rw [Addr.add_lit]
      exact hc) (by intro u hu; obtain ⟨x, _, rfl⟩ := List.mem_map.1 hu; rfl) (by unfold maxLen; omega) (by omega) (by simp)
  refine ⟨v', W', hr, ?_, hb.grown h3 (by simp) (fun k e => by cases e; exact Nat.le_refl _)⟩
  unfold On
  simpa using h2
set_option maxRecDepth 100000 in
set_option maxHeartbeats 8000000 in
theorem loopsCount_any (f : Fn) (w : World) (hi : Iss w f.ca f.code) (hc : f.code.length ≤ f.cc) (hok : ∀ x ∈ f.code, x.Ok) (hG : 1 < w.heap.size) (hT : Tb w) (hA : Tab w) : Calls Tryd.prog 6 #[f.val] w fun e w' => e = .returned (.bool true) ∧ Below w.heap.size w w' := by
  have HF : Hid (∀ W, Below w.heap.size w W → Calls Tryd.prog 12 #[] W fun e w' => e = .returned (.bool true) ∧ Below W.heap.size W w') := fun W hb => fixed_any W (Nat.lt_of_lt_of_le hG hb.size) (hT.keep (hb.block _ hG)) (hA.stay hb)
  have HFI : Hid (∀ W, Below w.heap.size w W → Calls Tryd.prog 8 #[f.val] W (FdP f.code W)) := fun W hb => find_any f W (hi.stay hb) hc hok (Nat.lt_of_lt_of_le hG hb.size) (hT.keep (hb.block _ hG)) (hA.stay hb)
  have HED : Hid (∀ W, Below w.heap.size w W → Calls Tryd.prog 15 #[f.val] W (REP f.code W)) := fun W hb => redges_any f W (hi.stay hb)
  have HRE : Hid (∀ W, Below w.heap.size w W → Calls Tryd.prog 19 #[f.val] W (ReP f.code W)) := fun W hb => rreach_any f W (hi.stay hb)
  have HIS : Hid (∀ W, Below w.heap.size w W → ∀ v, v < f.code.length → ∃ b o, f.ca = some ⟨b, o, none⟩ ∧ W.cell? ⟨b, o + v * 5, none⟩ = some (.int .i64 (opA f.code v).op) ∧ W.cell? ⟨b, o + v * 5 + 1, none⟩ = some (.int .i64 (opA f.code v).a) ∧ W.cell? ⟨b, o + v * 5 + 2, none⟩ = some (.int .i64 (opA f.code v).b) ∧ W.cell? ⟨b, o + v * 5 + 3, none⟩ = some (.int .i64 (opA f.code v).c) ∧ W.cell? ⟨b, o + v * 5 + 4, none⟩ = some (.int .i64 (opA f.code v).n)) := fun W hb v hv => iss_op (hi.stay hb) hv
  clear hi hc hok hG hT hA
  obtain ⟨fn, fpa, fpc, fps, frg, fwd, fca, fcc, fl⟩ := f
  unfold Fn.val at *
  simp only at HFI HED HRE HIS ⊢
  have HB0 := Hid.mk' (Below.one (Below.refl _ w) (.cells #[.string fn, .slice fpa fps.length fpc, .int .i64 frg, .int .i64 fwd, .slice fca fl.length fcc] 25))
  have HX0 := Hid.mk' (heap_alloc_new w (.cells #[.string fn, .slice fpa fps.length fpc, .int .i64 frg, .int .i64 fwd, .slice fca fl.length fcc] 25))
  go_enter Tryd.func6, Tryd.ntmps6
  go_wp2_with fail
  refine (HF.out _ HB0.out).mono ?_
  rintro e W1 ⟨rfl, bb1⟩
  have HB1 := Hid.mk' (Below.on HB0.out bb1)
  have HX1 := Hid.mk' (blk_stay HX0.out bb1)
  have z0 := cell_of_obj HX1.out (j := 0) (v := .string fn) rfl
  have z1 := cell_of_obj HX1.out (j := 1) (v := .slice fpa fps.length fpc) rfl
  have z2 := cell_of_obj HX1.out (j := 2) (v := .int .i64 frg) rfl
  have z3 := cell_of_obj HX1.out (j := 3) (v := .int .i64 fwd) rfl
  have z4 := cell_of_obj HX1.out (j := 4) (v := .slice fca fl.length fcc) rfl
  clear bb1 HB0 HX0 HF
  go_wp2_with fail
  refine (HFI.out _ HB1.out).mono ?_
  rintro e W2 ⟨v2, xs, rfl, hxs, hol, bb2⟩
  obtain ⟨la, lc, rfl, hlp⟩ := own_lps hol
  have HB2 := Hid.mk' (Below.on HB1.out bb2)
  have HX2 := Hid.mk' (blk_stay HX1.out bb2)
  clear z0 z1 z2 z3 z4 HX1 HB1 HFI hol bb2
  rcases find_parts (l := fl) with ⟨he, hls⟩ | ⟨he, hls, hn, hkz, hez⟩
  · have hx0 : xs.length = 0 := by rw [hls] at hxs; simpa using congrArg List.length hxs
    have hq0 : (((fndZ fl).e : Int) != 0) = true := bne_of (by omega)
    rw [hx0]
    generalize (fndZ fl).e = E at *
    clear he hls hxs hlp
    go_wp2_with fail
    go_ret
    exact ⟨rfl, HB2.out⟩
  have hm : xs.length = (hds fl).length := by rw [hls] at hxs; rw [← lops_len, ← hxs, List.length_map, List.length_map]
  have hlp2 : LpsI W2 la ((lopsZ fl).map loI) := by
    rw [hls] at hxs
    rw [← hxs, List.map_map]
    exact hlp
  have hm1 : (hds fl).length ≤ 1024 := by
    have := List.length_filter_le (fun h => !(bks fl h).isEmpty) (List.range fl.length)
    rw [List.length_range] at this
    unfold hds
    omega
  have HLQ := Hid.mk' (lqr_of hlp2)
  have HHL : Hid (∀ i, i < (hds fl).length → hdA fl i < fl.length) := fun i h => hdA_lt h
  have HML : Hid (∀ i x, x ∈ mbA fl i → x < fl.length) := fun i x h => (mem_mbs' h).2
  have HMN : Hid (∀ i, (mbA fl i).length ≤ 1024) := fun i => Nat.le_trans (mbs_len fl _) hn
  have HBN : Hid (∀ i, (bkA fl i).length ≤ 1024) := fun i => Nat.le_trans (bks_len fl _) hn
  have HBE : Hid (∀ i, i < (hds fl).length → bkA fl i ≠ []) := fun i h => (hds_mem (hds_at h)).1
  have HC1 : Hid (∀ i, i < (hds fl).length → (opA fl (hdA fl i)).op = 17) := fun i h => (cnt_in hez h).op
  have HC2 : Hid (∀ i, i < (hds fl).length → ∀ u ∈ bkA fl i, (opA fl u).op = 18 ∧ (opA fl u).a = (opA fl (hdA fl i)).a ∧ (opA fl u).n = (hdA fl i : Int)) := fun i h => (cnt_in hez h).bk
  have HC3 : Hid (∀ i, i < (hds fl).length → ∀ v ∈ mbA fl i, 0 ≤ wrN (opA fl v) → wrN (opA fl v) ≠ (opA fl (hdA fl i)).b ∧ (wrN (opA fl v) = (opA fl (hdA fl i)).a → v ∈ bkA fl i)) := fun i h => (cnt_in hez h).wr
  have HC4 : Hid (∀ i, i < (hds fl).length → ∀ v ∈ mbA fl i, (opA fl (hdA fl i)).n ≠ (v : Int)) := fun i h => (cnt_in hez h).ex
  have HG0 : Hid (∀ j, gnL fl 0 j = []) := fun j => gnL_zero fl j
  have HG1 : Hid (∀ i, i < (hds fl).length → gnL fl i (hdA fl i) = []) := fun i h => gnL_here h
  have HG2 : Hid (∀ i, i < (hds fl).length → gnL fl (i + 1) (hdA fl i) = bkA fl i) := fun i h => gnL_succ h
  have HG3 : Hid (∀ i j, i < (hds fl).length → j ≠ hdA fl i → gnL fl (i + 1) j = gnL fl i j) := fun i j h h2 => gnL_other h h2
  have HG4 : Hid (∀ j, j < fl.length → gnL fl (hds fl).length j = bks fl j) := fun j h => gnL_all fl h
  have HN1 := Hid.mk' hn
  have HKZ := Hid.mk' hkz
  rw [hm, he]
  clear hm hlp hlp2 hxs he hls hkz hez
  generalize hdA fl = H at *
  generalize paA fl = P at *
  generalize mbA fl = M at *
  generalize bkA fl = B at *
  generalize gnL fl = Gn at *
  generalize (hds fl).length = m at *
  have HM1 := Hid.mk' hm1
  have hmk : ∀ W, _ := fun W => run_mkR W fl.length (by omega)
  have HLG0 : Hid (LG W2 fl.length W2.heap.size W2.heap.size (Gn 0) (List.replicate fl.length (.slice none 0 0)) (W2.alloc (.cells (mkR fl.length) 38))) := LG.start HG0.out (heap_alloc_new W2 _) (Below.one (Below.refl _ W2) _) (by simp)
  have z4 := cell_of_obj HX2.out (j := 4) (v := .slice fca fl.length fcc) rfl
  clear hm1 hn HG0
  have hu : undef = Value.tuple #[] := rfl
  go_wp2_with fail
  clear z4 hmk
  go_loopw [8] (fun t8 wr => ∃ (i : Nat) (vs : List Value), i ≤ m ∧ t8 = .int .i64 (i : Int) ∧ LG W2 fl.length W2.heap.size W2.heap.size (Gn i) vs wr) (fun t8 _ => m - (intOf t8).toNat)
  case atStart => exact ⟨0, _, Nat.zero_le _, rfl, HLG0.out⟩
  case round =>
    clear HLG0
    obtain ⟨i, vs, hi, rfl, hlg⟩ := hrel
    have HLG := Hid.mk' hlg
    clear hlg
    by_cases hlt : i < m
    · have hii : (i : Int) < (m : Int) := by omega
      have him := HM1.out
      have hnl1 := HN1.out
      have HBW : Hid (Below w.heap.size w wr) := Below.on HB2.out HLG.out.b
      obtain ⟨b, o, ma, mc, ba, bc, rfl, c0, c1, c2, c3, hlm, hlb⟩ := (HLQ.out.stay HLG.out.b) i hlt
      have z4 := cell_of_obj (blk_stay HX2.out HLG.out.b) (j := 4) (v := .slice fca fl.length fcc) rfl
      have hhl := HHL.out i hlt
      obtain ⟨bq, oq, eq, d0, d1, d2, d3, d4⟩ := HIS.out wr HBW.out (H i) hhl
      subst eq
      rw [HC1.out i hlt] at d0
      obtain ⟨aq, cq, hq⟩ := gown_form (HLG.out.rows (H i) hhl)
      have hrow := cell_of_obj HLG.out.f (j := H i) (v := vs.getD (H i) undef) (by rw [List.getElem?_toArray]; exact vs_at (by rw [HLG.out.len]; exact hhl))
      rw [hq, HG1.out i hlt, List.length_nil] at hrow
      have HAP := Hid.mk' (bks_app (bc := bc) hlb (by have := HBN.out i; omega) (HBE.out i hlt) 38)
      have HST : Hid (∀ W' v', Below wr.heap.size wr W' → W'.cell? ⟨W2.heap.size, H i, none⟩ = some (.slice aq 0 cq) ∧ W'.frozen? ⟨W2.heap.size, H i, none⟩ = false ∧ (On wr.heap.size (B i) v' W' → LG W2 fl.length W2.heap.size W2.heap.size (Gn (i + 1)) (vs.set (H i) v') (W'.setCell ⟨W2.heap.size, H i, none⟩ v'))) := fun W' v' hb =>
        ⟨cell_kept_below hrow hb, Lib.frozen_of_heap (blk_stay HLG.out.f hb) _, fun ho => HLG.out.put hhl (Nat.le_refl _) hb ho (HG2.out i hlt) (fun j hj => HG3.out i j hlt hj)⟩
      have hbl : ((B i).length : Int) ≠ 0 := by
        intro e
        exact HBE.out i hlt (List.eq_nil_of_length_eq_zero (by omega))
      have q0 : (((B i).length : Int) == 0) = false := beq_no hbl
      have hhi : (H i : Int) < (fl.length : Int) := by omega
      have p1 : decide ((H i : Int) < 0) = false := decide_eq_false (by omega)
      have p2 : decide ((fl.length : Int) ≤ (H i : Int)) = false := decide_eq_false (by omega)
      have p3 : decide (fl.length ≤ H i) = false := decide_eq_false (by omega)
      have c3' : (wr.alloc (.cells #[] 3)).cell? ⟨b, o + i * 4 + 3, none⟩ = some (.slice ba (B i).length bc) := cell_kept_below c3 (Below.one (Below.refl _ _) _)
      have HLB := Hid.mk' hlb
      have HLM := Hid.mk' hlm
      clear hbl hlb hlm hq
      go_wp2_with (at_builtin; refine wpl_app rfl _ _ 38 38 _ _ rfl rfl rfl HAP.out ?_; rintro v5 W5 ⟨on5, bb5⟩; obtain ⟨a5, k5, rfl⟩ := gown_form on5; obtain ⟨s1, s2, s3⟩ := HST.out W5 _ bb5)
      have hlg5 := s3 on5
      generalize hWx : W5.setCell ⟨W2.heap.size, H i, none⟩ (.slice a5 (B i).length k5) = Wx at *
      have HLX := Hid.mk' hlg5
      have HBX := Hid.mk' (Below.refl Wx.heap.size Wx)
      have HQX := HLQ.out.stay hlg5.b
      have HBX2 : Hid (Below w.heap.size w Wx) := Below.on HB2.out hlg5.b
      have hc1 := HC1.out i hlt
      have HCU : Hid (∀ u, u ∈ B i → (opA fl u).op = 18 ∧ (opA fl u).a = (opA fl (H i)).a ∧ (opA fl u).n = (H i : Int)) := fun u h => HC2.out i hlt u h
      have HCV : Hid (∀ v, v ∈ M i → 0 ≤ wrN (opA fl v) → wrN (opA fl v) ≠ (opA fl (H i)).b ∧ (wrN (opA fl v) = (opA fl (H i)).a → v ∈ B i)) := fun v h => HC3.out i hlt v h
      have HCN : Hid (∀ v, v ∈ M i → (opA fl (H i)).n ≠ (v : Int)) := fun v h => HC4.out i hlt v h
      have HQI := Hid.mk' (HQX i hlt)
      have HHB : Hid (H i < fl.length) := hhl
      have HLT := Hid.mk' hlt
      clear s1 s2 s3 on5 bb5 hlg5 HQX hWx c0 c1 c2 c3 c3' z4 d0 d1 d2 d3 d4 hrow HAP HST HLB HLM q0 p1 p2 p3 hhi hc1 HLG HBW
      go_wp2_with fail
      go_loopw [10] (fun t10 wq => ∃ j : Nat, t10 = .int .i64 (j : Int) ∧ j ≤ (M i).length ∧ Below Wx.heap.size Wx wq) (fun t10 _ => (M i).length - (intOf t10).toNat)
      case atStart => exact ⟨0, rfl, Nat.zero_le _, HBX.out⟩
      case round =>
        clear HBX
        obtain ⟨j, rfl, hj, hbq⟩ := hrel
        have HBQ := Hid.mk' hbq
        have HBW : Hid (Below w.heap.size w wr) := Below.on HBX2.out hbq
        obtain ⟨b', o', ma', mc', ba', bc', e', c0, c1, c2, c3, hlm, hlb⟩ := HQI.out
        cases e'
        have c2 := cell_kept_below c2 hbq
        have c3 := cell_kept_below c3 hbq
        have hmn := HMN.out i
        have hlm := hlm.stay hbq
        have hlb := hlb.stay hbq
        by_cases hjl : j < (M i).length
        · obtain ⟨x, hx⟩ : ∃ x, (M i)[j]? = some x := ⟨_, List.getElem?_eq_getElem hjl⟩
          obtain ⟨b2, o2, rfl, e0⟩ : ∃ b o, ma' = some ⟨b, o, none⟩ ∧ wr.cell? ⟨b, o + j, none⟩ = some (.int .i64 (x : Int)) := hlm j (nV x) (by rw [List.getElem?_map, hx]; rfl)
          have hxm := List.mem_of_getElem? hx
          have hxl := HML.out i x hxm
          have HHAS : Hid (Calls Tryd.prog 16 #[.slice ba' (B i).length bc', .int .i64 (x : Int)] wr fun e w' => e = .returned (.bool (decide (x ∈ B i))) ∧ w' = wr) := by
            have h1 := r14has_any ((B i).map (fun (n : Nat) => (n : Int))) (x : Int) ba' bc' wr (by rw [map_nV]; exact hlb) (by rw [List.length_map]; have := HBN.out i; omega)
            rw [List.length_map] at h1
            have h2 : decide ((x : Int) ∈ (B i).map (fun (n : Nat) => (n : Int))) = decide (x ∈ B i) := decide_eq_decide.2 ⟨fun h => by
              obtain ⟨y, hy, e⟩ := List.mem_map.1 h
              rwa [show x = y by omega], fun h => List.mem_map.2 ⟨x, h, rfl⟩⟩
            rwa [h2] at h1
          have z4 := cell_of_obj (blk_stay HX2.out (Below.on HLX.out.b hbq)) (j := 4) (v := .slice (some ⟨bq, oq, none⟩) fl.length fcc) rfl
          obtain ⟨bq1, oq1, eq1, d0, d1, d2, d3, d4⟩ := HIS.out wr HBW.out (H i) HHB.out
          cases eq1
          obtain ⟨bq2, oq2, eq2, f0, f1, f2, f3, f4⟩ := HIS.out wr HBW.out x hxl
          cases eq2
          have q0 : ((opA fl (H i)).n == (x : Int)) = false := beq_no (HCN.out x hxm)
          have HBK : Hid (decide (x ∈ B i) = true → (opA fl x).op = 18 ∧ (opA fl x).a = (opA fl (H i)).a ∧ (opA fl x).n = (H i : Int)) := fun e => HCU.out x (of_decide_eq_true e)
          have HWZ : Hid (0 ≤ wrN (opA fl x) → wrN (opA fl x) ≠ (opA fl (H i)).b ∧ (wrN (opA fl x) = (opA fl (H i)).a → decide (x ∈ B i) = true)) := fun h0 => ⟨(HCV.out x hxm h0).1, fun e => decide_eq_true ((HCV.out x hxm h0).2 e)⟩
          have hxi : (x : Int) < (fl.length : Int) := by omega
          have hji : (j : Int) < ((M i).length : Int) := by omega
          have hii : (i : Int) < (m : Int) := by have := HLT.out; omega
          have hhi : (H i : Int) < (fl.length : Int) := by have := HHB.out; omega
          have him := HM1.out
          have p1 : decide ((x : Int) < 0) = false := decide_eq_false (by omega)
          have p2 : decide ((fl.length : Int) ≤ (x : Int)) = false := decide_eq_false (by omega)
          have p3 : decide (fl.length ≤ x) = false := decide_eq_false (by omega)
          have HJL := Hid.mk' hjl
          have HXL := Hid.mk' hxl
          clear hbq hlm hlb hx hxm hjl
          go_upto_region 21 with fail
          refine cnt_tail w.heap.size bq oq b o fcc m lc fl.length i (H i) x ba' bc' (B i) (opA fl (H i)) (opA fl x) (decide (x ∈ B i)) wr HLT.out HHB.out HXL.out z4 c3 d1 d2 f0 f1 f2 f3 f4 HHAS HBK HWZ _ _ (by assumption) _ _ _ _ _ _ _ _ _ _ _ _ _ _ _ _ _ _ _ _ _ _ _ _ _ _ _ _ _ _ _ _ _ _ _ _ _ _ _ _ _ _ _ _ _ _ _ _ _ _ _ _ _ _ _ _ _ _ _ _ _ _ _ _ _ _ _ _ _ _ _ _ _ _ _ _ _ _ _ _ _ _ _ _ _ _ _ _ _ _ _ _ _ _ _ _ _ _ _ _ _ _ _ _ _ _ _ _ _ _ _ _ _ _ _ _ _ _ _ _ _ _ _ _ _ _ _ _ _ _ _ _ _ _ _ _ _ _ _ _ _ _ _ _ _ _ _ _ _ _ _ _ _ _ _ _ _ _ _ _ _ _ _ _ _ _ _ _ _ _ _ _ _ _ _ _ _ _ _ _ _ _ _ _ _ _ _ _ _ _ _ _ _ _ _ _ _ _ _ _ _ _ _ _ _ _ _ _ _ _ _ _ _ _ _ _ _ _ _ _ _ _ _ _ _ _ _ _ _ _ _ _ _ _ _ _ _ _ _ _ _ _ _ _ _ _ _ _ _ _ _ _ _ _ _ _ _ _ _ _ _ _ _ _ _ _ _ _ _ _ _ _ _ _ _ _ _ _ _ _ _ _ _ _ _ _ _ _ _ _ _ _ _ _ _ _ _ _ _ _ _ _ _ _ _ _ _ _ _ _ _ _ _ _ _ _ _ _ _ _ _ _ _ _ _ _ ?_
          intro W8 v12 v13 v134 v135 v136 v137 v138 v139 v140 v141 v142 v143 v144 v145 v146 v147 v148 v149 v150 v151 v152 v153 v154 v155 v156 v157 v158 v159 v160 v161 v162 v163 v164 v165 v166 v167 v168 v169 v170 v171 v172 v173 v174 v175 v176 v177 v178 v179 v180 v181 v182 v183 v184 v185 v186 v187 v188 v189 v190 v191 v192 v193 v194 v195 v196 v197 v198 v199 v200 v201 v202 v203 v204 v205 v206 v207 hb8
          have HB8 : Hid (Below Wx.heap.size Wx W8) := Below.on HBQ.out hb8
          clear hb8 d0 d1 d2 d3 d4 f0 f1 f2 f3 f4 c0 c1 c2 c3 z4 e0 HHAS HBK HWZ
          go_wp2_with fail
          go_roundw
          case rel => exact ⟨j + 1, by go_num, HJL.out, HB8.out⟩
          case measure => simp [intOf]; omega
        · have hji : ¬ (j : Int) < ((M i).length : Int) := by omega
          have HL2 := Hid.mk' (HLX.out.stay hbq)
          clear c0 c1 c3 hlm hlb hbq
          go_wp2_with fail
          go_roundw
          case rel => exact ⟨i + 1, _, HLT.out, by go_num, HL2.out⟩
          case measure => simp [intOf]; omega
    · have hii : ¬ (i : Int) < (m : Int) := by omega
      have him : i = m := by omega
      have HB4 : Hid (Below w.heap.size w wr) := Below.on HB2.out HLG.out.b
      have HX4 := Hid.mk' (blk_stay HX2.out HLG.out.b)
      have HGN : Hid (LsR wr (some ⟨W2.heap.size, 0, none⟩) fl.length (bks fl)) := fun j hj => by
        have h := HLG.out.lsr j hj
        rw [him, HG4.out j hj] at h
        exact h
      clear HLG hlt hi
      go_upto_region 27 with fail
      exact cnt_edges w wr fn fpa fpc fps frg fwd fca fcc fl W2.heap.size HN1 HKZ HB4 HRE HED HX4 HGN _ (by assumption) _ _ _ _ _ _ _ _ _ _ _ _ _ _ _ _ _ _ _ _ _ _ _ _ _ _ _ _ _ _ _ _ _ _ _ _ _ _ _ _ _ _ _ _ _ _ _ _ _ _ _ _ _ _ _ _ _ _ _ _ _ _ _ _ _ _ _ _ _ _ _ _ _ _ _ _ _ _ _ _ _ _ _ _ _ _ _ _ _ _ _ _ _ _ _ _ _ _ _ _ _ _ _ _ _ _ _ _ _ _ _ _ _ _ _ _ _ _ _ _ _ _ _ _ _ _ _ _ _ _ _ _ _ _ _ _ _ _ _ _ _ _ _ _ _ _ _ _ _ _ _ _ _ _ _ _ _ _ _ _ _ _ _ _ _ _ _ _ _ _ _ _ _ _ _ _ _ _ _ _ _ _ _ _ _ _ _ _ _ _ _ _ _ _ _ _ _ _ _ _ _ _ _ _ _ _ _ _ _ _ _ _ _ _ _ _ _ _ _ _ _ _ _ _ _ _ _ _ _ _ _ _ _ _ _ _ _ _ _ _ _ _ _ _ _ _ _ _ _ _ _ _ _ _ _ _ _ _ _ _ _ _ _ _ _ _ _ _ _ _ _ _ _ _ _ _ _ _ _ _ _ _ _ _ _ _ _ _ _ _ _ _ _ _ _ _ _ _ _ _ _ _ _ _ _ _ _ _ _ _ _ _ _ _ _ _ _ _ _ _ _ _ _ _ _ _ _ _
end Go.Proofs.YtgiokognngllcaaDoor
