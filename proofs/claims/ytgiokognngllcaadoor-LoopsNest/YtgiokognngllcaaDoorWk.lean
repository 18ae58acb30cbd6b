/- law.LoopsNest. -/
import Derived.Test.YtgiokognngllcaaDoorWo
import Derived.Deep.QuietTactic
import Derived.BigQuiet
namespace Go.Proofs.YtgiokognngllcaaDoor
open Go.RowKit Go.Sort

set_option maxRecDepth 100000 in
set_option maxHeartbeats 8000000 in
theorem loopsNest_any (f : Fn) (w : World) (hi : Iss w f.ca f.code) (hc : f.code.length ≤ f.cc) (hok : ∀ x ∈ f.code, x.Ok) (hG : 1 < w.heap.size) (hT : Tb w) (hA : Tab w) : Calls Tryd.prog 5 #[f.val] w fun e w' => e = .returned (.bool true) ∧ Below w.heap.size w w' := by
  have HF : Hid (∀ W, Below w.heap.size w W → Calls Tryd.prog 12 #[] W fun e w' => e = .returned (.bool true) ∧ Below W.heap.size W w') := fun W hb => fixed_any W (Nat.lt_of_lt_of_le hG hb.size) (hT.keep (hb.block _ hG)) (hA.stay hb)
  have HFI : Hid (∀ W, Below w.heap.size w W → Calls Tryd.prog 8 #[f.val] W (FdP f.code W)) := fun W hb => find_any f W (hi.stay hb) hc hok (Nat.lt_of_lt_of_le hG hb.size) (hT.keep (hb.block _ hG)) (hA.stay hb)
  have HED : Hid (∀ W, Below w.heap.size w W → Calls Tryd.prog 15 #[f.val] W (REP f.code W)) := fun W hb => redges_any f W (hi.stay hb)
  clear hi hc hok hG hT hA
  obtain ⟨fn, fpa, fpc, fps, frg, fwd, fca, fcc, fl⟩ := f
  unfold Fn.val at *
  simp only at HFI HED ⊢
  have HB0 := Hid.mk' (Below.one (Below.refl _ w) (.cells #[.string fn, .slice fpa fps.length fpc, .int .i64 frg, .int .i64 fwd, .slice fca fl.length fcc] 25))
  have HX0 := Hid.mk' (heap_alloc_new w (.cells #[.string fn, .slice fpa fps.length fpc, .int .i64 frg, .int .i64 fwd, .slice fca fl.length fcc] 25))
  go_enter Tryd.func5, Tryd.ntmps5
  go_wp2_with fail
  refine (HF.out _ HB0.out).mono ?_
  rintro e W1 ⟨rfl, bb1⟩
  have HB1 := Hid.mk' (Below.on HB0.out bb1)
  have HX1 := Hid.mk' (blk_stay HX0.out bb1)
  have z0 := cell_of_obj HX1.out (j := 0) (v := .string fn) rfl
  have z1 := cell_of_obj HX1.out (j := 1) (v := .slice fpa fps.length fpc) rfl
  have z2 := cell_of_obj HX1.out (j := 2) (v := .int .i64 frg) rfl
  have z3 := cell_of_obj HX1.out (j := 3) (v := .int .i64 fwd) rfl
  have z4 := cell_of_obj HX1.out (j := 4) (v := .slice fca fl.length fcc) rfl
  clear bb1 HB0 HX0 HF
  go_wp2_with fail
  refine (HFI.out _ HB1.out).mono ?_
  rintro e W2 ⟨v2, xs, rfl, hxs, hol, bb2⟩
  obtain ⟨la, lc, rfl, hlp⟩ := own_lps hol
  have HB2 := Hid.mk' (Below.on HB1.out bb2)
  have HX2 := Hid.mk' (blk_stay HX1.out bb2)
  clear z0 z1 z2 z3 z4 HX1 HB1 HFI hol bb2
  rcases find_parts (l := fl) with ⟨he, hls⟩ | ⟨he, hls, hn, hkz, hez⟩
  · have hx0 : xs.length = 0 := by rw [hls] at hxs; simpa using congrArg List.length hxs
    have hq0 : (((fndZ fl).e : Int) != 0) = true := bne_of (by omega)
    rw [hx0]
    generalize (fndZ fl).e = E at *
    clear he hls hxs hlp
    go_wp2_with fail
    go_ret
    exact ⟨rfl, HB2.out⟩
  have hm : xs.length = (hds fl).length := by rw [hls] at hxs; rw [← lops_len, ← hxs, List.length_map, List.length_map]
  have hlp2 : LpsI W2 la ((lopsZ fl).map loI) := by
    rw [hls] at hxs
    rw [← hxs, List.map_map]
    exact hlp
  have hm1 : (hds fl).length ≤ 1024 := by
    have := List.length_filter_le (fun h => !(bks fl h).isEmpty) (List.range fl.length)
    rw [List.length_range] at this
    unfold hds
    omega
  have HDP : Hid (∀ W (z : Int), Below W2.heap.size W2 W → Calls Tryd.prog 13 #[.slice la (hds fl).length lc, .int .i64 z] W fun e w' => e = .returned (.int .i64 (dpt ((lopsZ fl).map loI) z : Int)) ∧ Below W.heap.size W w') := fun W z hb => by
    have := ldepth_any ((lopsZ fl).map loI) z la lc W (hlp2.stay hb) (by rw [lops_len]; omega) (fun x hx => by
      obtain ⟨i, hi⟩ := List.getElem?_of_mem hx
      have hil : i < (hds fl).length := by rw [← lops_len]; exact (List.getElem?_eq_some_iff.1 hi).1
      rw [lops_at fl hil] at hi
      cases hi
      simp only [List.length_map]
      have := mbs_len fl (hdA fl i)
      unfold mbA
      omega)
    rwa [lops_len] at this
  have HLQ := Hid.mk' (lqr_of hlp2)
  have HHL : Hid (∀ i, i < (hds fl).length → hdA fl i < fl.length) := fun i h => hdA_lt h
  have HHM : Hid (∀ i, i < (hds fl).length → hdA fl i ∈ mbA fl i) := fun i h => hdA_in h
  have HHU : Hid (∀ i, i + 1 < (hds fl).length → hdA fl i < hdA fl (i + 1)) := fun i h => hdA_up h
  have HML : Hid (∀ i x, x ∈ mbA fl i → x < fl.length) := fun i x h => (mem_mbs' h).2
  have HMN : Hid (∀ i, (mbA fl i).length ≤ 1024) := fun i => Nat.le_trans (mbs_len fl _) hn
  have HMR : Hid (∀ i j x y, (mbA fl i)[j]? = some x → (mbA fl i)[j + 1]? = some y → x < y) := fun i j x y h1 h2 => rise_at (mbs_rise fl _) h1 h2
  have HPG : Hid (∀ i, i < (hds fl).length → -1 ≤ paA fl i ∧ paA fl i < ((hds fl).length : Int)) := fun i h => par_ge h
  have HP1 : Hid (∀ i, paA fl i = -1 → cnP (fun k => decide (k ≠ i ∧ hdA fl i ∈ mbA fl k)) (hds fl).length = 0) := fun i h => par_none h
  have HP2 : Hid (∀ i, i < (hds fl).length → paA fl i ≠ -1 → ∃ p : Nat, paA fl i = (p : Int) ∧ p < (hds fl).length ∧ p ≠ i ∧ hdA fl i ∈ mbA fl p ∧ 0 < cnP (fun k => decide (k ≠ i ∧ hdA fl i ∈ mbA fl k)) (hds fl).length ∧ dpt ((lopsZ fl).map loI) (hdA fl p : Int) = cnP (fun k => decide (k ≠ i ∧ hdA fl i ∈ mbA fl k)) (hds fl).length) := fun i h h2 => par_some h h2
  have HCR : Hid (∀ i k n, i < (hds fl).length → k < (hds fl).length → k ≠ i → n ∈ mbA fl i → decide (n ∈ mbA fl k) ≠ decide (hdA fl i ∈ mbA fl k) → n ∈ mbA fl k ∧ hdA fl k ∈ mbA fl i) := fun i k n h1 h2 h3 h4 h5 => nest_cross h1 h2 h3 h4 h5
  have HEN : Hid (∀ rs, IsR fl rs → ∀ u v, (u, v) ∈ edg fl rs → u < fl.length ∧ v < fl.length ∧ ∀ k, u ∉ mbA fl k → v ∈ mbA fl k → v = hdA fl k) := fun rs hr u v hm => by
    obtain ⟨h1, h2, h3, h4, _⟩ := mem_edg' hr hm
    exact ⟨h3, h4, fun k h5 h6 => nest_enter h1 h2 h3 h5 h6⟩
  have HEL : Hid (∀ rs, IsR fl rs → (edg fl rs).length ≤ 3000) := fun rs hr => Nat.le_trans (edg_len hr) (by decide)
  have HN1 := Hid.mk' hn
  rw [hm, he]
  clear hm hlp hlp2 hxs he hls hkz hez
  generalize dpt ((lopsZ fl).map loI) = D at *
  generalize hdA fl = H at *
  generalize paA fl = P at *
  generalize mbA fl = M at *
  generalize bkA fl = B at *
  generalize (hds fl).length = m at *
  have HM1 := Hid.mk' hm1
  have HNI0 : Hid (NbI W2.heap.size fl.length M 0 [] (.slice (some ⟨W2.heap.size, 0, none⟩) 0 0) (W2.alloc (.cells #[] 45))) := ⟨row_new W2 45 1, fun j h => absurd h (Nat.not_lt_zero _)⟩
  have HBL0 := Hid.mk' (Below.one (Below.refl W2.heap.size W2) (.cells #[] 45))
  clear hm1 hn
  have hu : undef = Value.tuple #[] := rfl
  go_wp2_with fail
  go_loopw [6, 7] (fun t6 t7 wr => ∃ (i : Nat) (vs : List Value) (vin : Value), i ≤ m ∧ t6 = vin ∧ t7 = .int .i64 (i : Int) ∧ NbI W2.heap.size fl.length M i vs vin wr ∧ Below W2.heap.size W2 wr) (fun _ t7 _ => m - (intOf t7).toNat)
  case atStart => exact ⟨0, [], _, Nat.zero_le _, rfl, rfl, HNI0.out, HBL0.out⟩
  case round =>
    clear HNI0 HBL0
    obtain ⟨i, vs, vin, hi, rfl, rfl, hni, hbw⟩ := hrel
    have HNI := Hid.mk' hni
    have HBW := Hid.mk' hbw
    obtain ⟨ia, ic, rfl⟩ := gown_form hni.row
    clear hni hbw
    by_cases hlt : i < m
    · have hii : (i : Int) < (m : Int) := by omega
      have z4 := cell_of_obj (blk_stay HX2.out HBW.out) (j := 4) (v := .slice fca fl.length fcc) rfl
      have hmk : ∀ W, _ := fun W => run_mkB W fl.length (by have := HN1.out; omega)
      have HOB0 : Hid (Ob wr.heap.size (bgsV fl.length ((M i).take 0)) (.slice (some ⟨wr.heap.size, 0, none⟩) fl.length fl.length) (wr.alloc (.cells (mkB fl.length) 4))) := by
        have := own_mkB wr fl.length (by have := HN1.out; omega)
        rwa [List.take_zero, bgsV_nil]
      have HBR0 := Hid.mk' (Below.one (Below.refl wr.heap.size wr) (.cells (mkB fl.length) 4))
      obtain ⟨Wo, hWo⟩ : ∃ Wo, Wo = wr := ⟨_, rfl⟩
      subst hWo
      go_wp2_with fail
      go_loopw [9] (fun t9 wr => ∃ j : Nat, t9 = .int .i64 (j : Int) ∧ j ≤ (M i).length ∧ Ob Wo.heap.size (bgsV fl.length ((M i).take j)) (.slice (some ⟨Wo.heap.size, 0, none⟩) fl.length fl.length) wr ∧ Below Wo.heap.size Wo wr) (fun t9 _ => (M i).length - (intOf t9).toNat)
      case atStart => exact ⟨0, rfl, Nat.zero_le _, HOB0.out, HBR0.out⟩
      case round =>
        clear HOB0 HBR0 hmk z4
        obtain ⟨j, rfl, hj, hob, hbq⟩ := hrel
        have HOB := Hid.mk' hob
        have HBQ := Hid.mk' hbq
        have HBW2 : Hid (Below W2.heap.size W2 wr) := Below.on HBW.out hbq
        obtain ⟨b, o, ma, mc, ba, bc, rfl, c0, c1, c2, c3, hlm, hlb⟩ := (HLQ.out.stay HBW2.out) i hlt
        have HLM := Hid.mk' hlm
        have hmn := HMN.out i
        clear hob hbq hlm hlb
        by_cases hjl : j < (M i).length
        · obtain ⟨x, hx⟩ : ∃ x, (M i)[j]? = some x := ⟨_, List.getElem?_eq_getElem hjl⟩
          obtain ⟨b2, o2, rfl, d0⟩ : ∃ b o, ma = some ⟨b, o, none⟩ ∧ wr.cell? ⟨b, o + j, none⟩ = some (.int .i64 (x : Int)) := HLM.out j (nV x) (by rw [List.getElem?_map, hx]; rfl)
          have hxl := HML.out i x (List.mem_of_getElem? hx)
          obtain ⟨g2, e2, d2, k1, k2⟩ := ob_at HOB.out (bgsV_at ((M i).take j) hxl)
          cases e2
          clear k1 k2
          have f2 := World.ownsRow.frozenAt (by have := HOB.out; unfold Ob at this; rw [bgsV_len] at this; exact this) x
          have HT : Hid ((M i).take (j + 1) = (M i).take j ++ [x]) := by
            obtain ⟨h1, h2⟩ := List.getElem?_eq_some_iff.1 hx
            show _ = _
            rw [List.take_succ_eq_append_getElem h1, h2]
          have HSN := Hid.mk' (bgsV_snoc (n := fl.length) ((M i).take j) x)
          have HPB : Hid (Below Wo.heap.size Wo (wr.setCell ⟨Wo.heap.size, x, none⟩ (.bool true))) := HBQ.out.setCell (Nat.le_refl _) _
          have HPO : Hid (Ob Wo.heap.size ((bgsV fl.length ((M i).take j)).set x true) (.slice (some ⟨Wo.heap.size, 0, none⟩) fl.length fl.length) (wr.setCell ⟨Wo.heap.size, x, none⟩ (.bool true))) := ob_put HOB.out x true
          generalize decide (x ∈ (M i).take j) = ob at *
          have hji : (j : Int) < ((M i).length : Int) := by omega
          have hxi : (x : Int) < (fl.length : Int) := by omega
          have p1 : decide ((x : Int) < 0) = false := decide_eq_false (by omega)
          have p2 : decide ((fl.length : Int) ≤ (x : Int)) = false := decide_eq_false (by omega)
          have p3 : decide (fl.length ≤ x) = false := decide_eq_false (by omega)
          have HX := Hid.mk' hx
          have HXL := Hid.mk' hxl
          clear hx hxl
          by_cases hk0 : j = 0
          · have q0 : decide (0 < j) = false := decide_eq_false (by omega)
            have q1 : decide ((0 : Int) < (j : Int)) = false := decide_eq_false (by omega)
            clear hk0
            go_wp2_with fail
            go_roundw
            case rel => exact ⟨j + 1, by go_num, hjl, by rw [HT.out, HSN.out]; exact HPO.out, HPB.out⟩
            case measure => simp [intOf]; omega
          · have q0 : decide (0 < j) = true := decide_eq_true (by omega)
            have q1 : decide ((0 : Int) < (j : Int)) = true := decide_eq_true (by omega)
            obtain ⟨y, hy⟩ : ∃ y, (M i)[j - 1]? = some y := ⟨_, List.getElem?_eq_getElem (by omega)⟩
            have hlt2 := HMR.out i (j - 1) y x hy (by rw [show j - 1 + 1 = j by omega]; exact HX.out)
            obtain ⟨b3, o3, e3, d9⟩ := HLM.out (j - 1) (nV y) (by rw [List.getElem?_map, hy]; rfl)
            cases e3
            unfold nV at d9
            have q2 : decide ((x : Int) ≤ (y : Int)) = false := decide_eq_false (by omega)
            have q3 : decide (x ≤ y) = false := decide_eq_false (by omega)
            obtain ⟨jj, hjj⟩ : ∃ jj : Nat, j - 1 = jj := ⟨_, rfl⟩
            rw [hjj] at d9
            have q4 : IntKind.i64.wrap ((j : Int) - 1) = (jj : Int) := by rw [IntKind.wrap_i64]; omega
            have q5 : wrap64 ((j : Int) - 1) = (jj : Int) := by unfold wrap64; omega
            have q6 : (j : Int) - 1 = (jj : Int) := by omega
            have q7 : (jj : Int) < ((M i).length : Int) := by omega
            have Q6 := Hid.mk' q6
            clear hk0 hy hlt2 hjj q6
            go_wp2_with fail
            go_roundw
            case rel => exact ⟨j + 1, by go_num, hjl, by rw [HT.out, HSN.out]; exact HPO.out, HPB.out⟩
            case measure => simp [intOf]; omega
        · have hji : ¬ (j : Int) < ((M i).length : Int) := by omega
          have hob : Ob Wo.heap.size (bgsV fl.length (M i)) (.slice (some ⟨Wo.heap.size, 0, none⟩) fl.length fl.length) wr := by
            have := HOB.out
            rwa [List.take_of_length_le (by omega)] at this
          have hhl := HHL.out i hlt
          obtain ⟨g2, e2, d2, k1, k2⟩ := ob_at hob (bgsV_at (M i) hhl)
          cases e2
          clear k1 k2
          rw [decide_eq_true (HHM.out i hlt)] at d2
          have HOBF := Hid.mk' hob
          have hss : W2.heap.size ≤ Wo.heap.size := HBW.out.size
          have HSS := Hid.mk' hss
          have HNQ : Hid (∀ n, NbI W2.heap.size fl.length M i vs (.slice ia i ic) (wr.drewN n)) := fun n => HNI.out.stay (Below.trans HBQ.out (Below.drewN (Below.refl _ wr) n |>.mono HBQ.out.size))
          have HBN : Hid (∀ n, Below W2.heap.size W2 (wr.drewN n)) := fun n => HBW2.out.drewN n
          have HRN : Hid (∀ n, Ob W2.heap.size (bgsV fl.length (M i)) (.slice (some ⟨Wo.heap.size, 0, none⟩) fl.length fl.length) (wr.drewN n)) := fun n => own_mono (own_stay HOBF.out (Below.drewN (Below.refl _ wr) n)) HSS.out
          have HGB : Hid (∀ n W', (wr.drewN n).grownBy W' (Value.slice ia i ic).ownBlock → Below W2.heap.size W2 W') := fun n W' g => (HBN.out n).grown g (HBN.out n).size (fun k e => own_base (HNQ.out n).row k e)
          have hml := HM1.out
          have HAPP : Hid (∀ n, _) := fun n => bs_app (HNQ.out n).row (HBN.out n).size (by omega) (some ⟨Wo.heap.size, 0, none⟩) fl.length fl.length 44
          obtain ⟨pg1, pg2⟩ := HPG.out i hlt
          have hhi : (H i : Int) < (fl.length : Int) := by omega
          have p1 : decide ((H i : Int) < 0) = false := decide_eq_false (by omega)
          have p2 : decide ((fl.length : Int) ≤ (H i : Int)) = false := decide_eq_false (by omega)
          have p3 : decide (fl.length ≤ H i) = false := decide_eq_false (by omega)
          have p4 : decide (P i < -1) = false := decide_eq_false (by omega)
          have p5 : decide ((m : Int) ≤ P i) = false := decide_eq_false (by omega)
          have HHI := Hid.mk' hhl
          clear hob hhl hss HOB HLM pg1 pg2
          by_cases hk0 : i = 0
          · have q0 : decide (0 < i) = false := decide_eq_false (by omega)
            have q1 : decide ((0 : Int) < (i : Int)) = false := decide_eq_false (by omega)
            clear hk0
            go_upto_region 18 with fail
            try simp only [List.append]
            go_quiet (fail)
            go_wp2_with (at_builtin; refine wpl_app rfl _ _ 44 44 _ _ rfl rfl rfl (HAPP.out _) ?_; rintro v5 W5 ⟨on5, gr5⟩)
            go_roundw
            case rel => exact ⟨i + 1, _, _, hlt, rfl, by go_num, (HNQ.out _).more (HRN.out _) gr5 on5, HGB.out _ _ gr5⟩
            case measure => simp [intOf]; omega
          · have q0 : decide (0 < i) = true := decide_eq_true (by omega)
            have q1 : decide ((0 : Int) < (i : Int)) = true := decide_eq_true (by omega)
            obtain ⟨ii, hii2⟩ : ∃ ii : Nat, i - 1 = ii := ⟨_, rfl⟩
            have hlt2 := HHU.out ii (by omega)
            rw [show ii + 1 = i by omega] at hlt2
            obtain ⟨b3, o3, ma3, mc3, ba3, bc3, e3, d3, _, _, _, _, _⟩ := (HLQ.out.stay HBW2.out) ii (by omega)
            cases e3
            have q2 : decide ((H i : Int) ≤ (H ii : Int)) = false := decide_eq_false (by omega)
            have q3 : decide (H i ≤ H ii) = false := decide_eq_false (by omega)
            have q4 : IntKind.i64.wrap ((i : Int) - 1) = (ii : Int) := by rw [IntKind.wrap_i64]; omega
            have q5 : wrap64 ((i : Int) - 1) = (ii : Int) := by unfold wrap64; omega
            have q6 : (i : Int) - 1 = (ii : Int) := by omega
            have q7 : (ii : Int) < (m : Int) := by omega
            have Q6 := Hid.mk' q6
            clear hk0 hlt2 hii2 q6
            go_upto_region 18 with fail
            try simp only [List.append]
            go_quiet (fail)
            go_wp2_with (at_builtin; refine wpl_app rfl _ _ 44 44 _ _ rfl rfl rfl (HAPP.out _) ?_; rintro v5 W5 ⟨on5, gr5⟩)
            go_roundw
            case rel => exact ⟨i + 1, _, _, hlt, rfl, by go_num, (HNQ.out _).more (HRN.out _) gr5 on5, HGB.out _ _ gr5⟩
            case measure => simp [intOf]; omega
    · have hii : ¬ (i : Int) < (m : Int) := by omega
      have him : i = m := by omega
      subst him
      have HRB := Hid.mk' HNI.out.rbr
      have HBX := Hid.mk' (Below.refl wr.heap.size wr)
      clear HNI hlt hi HHU HML HMN HMR
      obtain ⟨Wo, hWo⟩ : ∃ Wo, Wo = wr := ⟨_, rfl⟩
      subst hWo
      go_upto_region 21 with fail
      exact nest_loops w W2 fn fpa fpc fps frg fwd fca fcc fl la lc ia ic i H P M B D Wo HED HB2 HX2 HLQ HEN HEL HN1 HM1 HBW HRB HDP HHL HP1 HP2 HCR _ _ (by assumption) (by assumption) _ _ _ _ _ _ _ _ _ _ _ _ _ _ _ _ _ _ _ _ _ _ _ _ _ _ _ _ _ _ _ _ _ _ _ _ _ _ _ _ _ _ _ _ _ _ _ _ _ _ _ _ _ _ _ _ _ _ _ _ _ _ _ _ _ _ _ _ _ _ _ _ _ _ _ _ _ _ _ _ _ _ _ _ _ _ _ _ _ _ _ _ _ _ _ _ _ _ _ _ _ _ _ _ _ _ _ _ _ _ _ _ _ _ _ _ _ _ _ _ _ _ _ _ _ _ _ _ _ _ _ _ _ _ _ _ _ _ _ _ _ _ _ _ _ _ _ _ _ _ _ _ _ _ _ _ _ _ _ _ _ _ _ _ _ _ _ _ _ _ _ _ _ _ _ _ _ _ _ _ _ _ _ _ _ _ _ _ _ _ _ _ _ _ _ _ _ _ _ _ _ _ _ _ _ _ _ _ _ _ _ _ _ _ _ _ _ _ _ _ _ _ _ _ _ _ _ _ _ _ _ _ _ _ _ _ _ _ _ _ _ _ _ _ _ _ _ _ _ _ _ _ _ _ _ _ _ _ _ _ _ _ _ _ _ _ _ _ _ _ _ _ _ _ _ _ _ _ _ _ _ _ _ _ _ _ _ _ _ _ _ _ _ _ _ _ _ _ _ _ _ _ _ _ _ _ _ _ _ _ _ _ _ _ _ _ _ _ _ _ _ _ _ _ _ _ _ _ _ _ _ _ _ _ _ _ _ _ _ _ _ _ _ _ _ _
end Go.Proofs.YtgiokognngllcaaDoor
