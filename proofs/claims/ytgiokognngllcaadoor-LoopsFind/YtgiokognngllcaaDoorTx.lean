/- loops.Find, walked. -/
import Derived.Test.YtgiokognngllcaaDoorTw
namespace Go.Proofs.YtgiokognngllcaaDoor
open Go.RowKit Go.Sort

theorem set_self' {α : Type} {l : List α} {i : Nat} {a : α} (h : l[i]? = some a) : l.set i a = l := by
  refine List.ext_getElem? fun j => ?_
  rw [List.getElem?_set]
  split
  · rename_i e
    subst e
    split
    · exact h.symm
    · rename_i hn
      exact absurd (List.getElem?_eq_some_iff.1 h).1 hn
  · rfl
theorem cnt_ne {l : List Is} {h : Nat} {bs ms : List Nat} {p : Nat × Nat} (e : cntZ l h bs ms = some p) : p.1 ≠ 0 := by
  unfold cntZ at e
  split at e
  · cases e; simp
  · split at e
    · cases e; simp
    · split at e
      · cases e; simp
      · split at e
        · cases e; simp
        · cases e
set_option maxRecDepth 100000 in
set_option maxHeartbeats 4000000 in
theorem find_any (f : Fn) (w : World) (hi : Iss w f.ca f.code) (hc : f.code.length ≤ f.cc) (hok : ∀ x ∈ f.code, x.Ok) (hG : 1 < w.heap.size) (hT : Tb w) (hA : Tab w) : Calls Tryd.prog 8 #[f.val] w (FdP f.code w) := by
  have HGO : Hid (∀ w', Below w.heap.size w w' → f.code.length ≤ 1024 → Calls Tryd.prog 20 #[f.val] w' (GrP f.code w')) := fun w' hb hl => graphOf_any f w' (hi.stay hb) hc hl (Nat.lt_of_lt_of_le hG hb.size) (hT.keep (hb.block _ hG))
  obtain ⟨fn, fpa, fpc, fps, frg, fwd, fca, fcc, fl⟩ := f
  unfold Fn.val at *
  simp only at hi hok HGO ⊢
  have HI := Hid.mk' hi
  have HOK := Hid.mk' hok
  have HTA := Hid.mk' hA
  have hcl := hi.1
  have HB := Hid.mk' (Below.one (Below.refl _ w) (.cells #[.string fn, .slice fpa fps.length fpc, .int .i64 frg, .int .i64 fwd, .slice fca fl.length fcc] 25))
  have HX := Hid.mk' (heap_alloc_new w (.cells #[.string fn, .slice fpa fps.length fpc, .int .i64 frg, .int .i64 fwd, .slice fca fl.length fcc] 25))
  have y4 := cell_of_obj HX.out (j := 4) (v := .slice fca fl.length fcc) rfl
  clear hi hc hok hG hT hA
  by_cases hlong : 1024 < fl.length
  · have hli : (1024 : Int) < (fl.length : Int) := by omega
    have HF := Hid.mk' (fnd_long hlong)
    clear hlong
    go_enter Tryd.func8, Tryd.ntmps8
    go_wp2_with fail
    exact bodyPost_ret (v := .tuple #[.slice none 0 0, .int .i64 97, .int .i64 1024]) (by simp [results, Tryd.results8, go_sem]) rfl ⟨_, [], by rw [HF.out]; rfl, by rw [HF.out]; rfl, OwnL.nil _ _ _, HB.out⟩
  have hn : fl.length ≤ 1024 := by omega
  have hli : ¬ (1024 : Int) < (fl.length : Int) := by omega
  have HN := Hid.mk' hn
  clear hlong
  have y0 := cell_of_obj HX.out (j := 0) (v := .string fn) rfl
  have y1 := cell_of_obj HX.out (j := 1) (v := .slice fpa fps.length fpc) rfl
  have y2 := cell_of_obj HX.out (j := 2) (v := .int .i64 frg) rfl
  have y3 := cell_of_obj HX.out (j := 3) (v := .int .i64 fwd) rfl
  go_enter Tryd.func8, Tryd.ntmps8
  go_wp2_with fail
  refine (HGO.out _ HB.out HN.out).mono ?_
  rintro e W1 ⟨F, FB, rs, vs, rfl, hir, hg3, hfb, hFa, hFB, bb1⟩
  rw [World.size_alloc] at hg3 hfb hFa hFB bb1
  have HIR := Hid.mk' hir
  have HB1 : Hid (Below w.heap.size w W1) := HB.out.trans (bb1.mono (Nat.le_succ _))
  have HX1 : Hid (W1.heap[w.heap.size]? = some (.cells #[.string fn, .slice fpa fps.length fpc, .int .i64 frg, .int .i64 fwd, .slice fca fl.length fcc] 25)) := (bb1.block _ (Nat.lt_succ_self _)).trans HX.out
  have HS1 : Hid (w.heap.size + 1 ≤ W1.heap.size) := hg3.sz
  obtain ⟨W2, hW2⟩ : ∃ X, X = W1.alloc (.cells (gV fl.length FB F) 58) := ⟨_, rfl⟩
  have hb12 : Below W1.heap.size W1 W2 := by rw [hW2]; exact Below.one (Below.refl _ W1) _
  have hs2 : W2.heap.size = W1.heap.size + 1 := by rw [hW2]; simp
  have hgx : W2.heap[W1.heap.size]? = some (.cells (gV fl.length FB F) 58) := by rw [hW2]; exact heap_alloc_new W1 _
  have HG3 := Hid.mk' (hg3.stay hb12)
  have HGX := Hid.mk' hgx
  have HB2 : Hid (Below w.heap.size w W2) := HB1.out.trans (hb12.mono HB1.out.size)
  have HX2 := Hid.mk' (blk_stay HX1.out hb12)
  have HS2 : Hid (W2.heap.size = W1.heap.size + 1) := hs2
  have HV2 := Hid.mk' (ob_lst (own_stay hfb hb12))
  have HVR : Hid (∀ j, j < fl.length → ∃ N' n' xs', W1.ownsRow N' 3 1 ((vs 1).getD j undef) n' xs') := fun j hj => ⟨_, _, _, hg3.rows 1 j (by decide) hj⟩
  have HW2 := Hid.mk' hW2
  have HAH : Hid (∀ u, u < fl.length → ∀ v, v ∈ Lg fl (edg fl rs) 2 u ↔ Ah fl u v) := fun u hu v => lg_ah HIR.out HN.out hu v
  have HFR : Hid (∀ x, x < fl.length → ∀ u, u ∈ Lg fl (edg fl rs) 0 x ↔ Rch fl u ∧ x ∈ nxt fl u) := fun x hx u => lg_fr HIR.out HN.out hx u
  have HBB : Hid (∀ h, Lg fl (edg fl rs) 1 h = bks fl h) := fun h => lg_bk HIR.out HN.out h
  have HLE : Hid (∀ a j, (Lg fl (edg fl rs) a j).length ≤ 3000) := fun a j => lg_len fl (Nat.le_trans (edg_len HIR.out) (by decide)) a j
  have HUP : Hid (∀ v, (fbL fl fl.length (edg fl rs))[v]? = some true → ∃ u, v < u ∧ Ah fl u v) := fun v h => fb_up HIR.out HN.out v h
  have HDN : Hid (∀ v u, v < u → Ah fl u v → (fbL fl fl.length (edg fl rs))[v]? = some true) := fun v u h h2 => fb_dn HIR.out HN.out v u h h2
  clear hir hg3 hfb hFa hFB bb1 hb12 hs2 hgx hW2 y0 y1 y2 y3 y4 HX HB HX1
  unfold gV at *
  have HKN : Hid (Calls Tryd.prog 21 #[.agg #[.slice (some ⟨F 0, 0, none⟩) fl.length fl.length, .slice (some ⟨F 1, 0, none⟩) fl.length fl.length, .slice (some ⟨F 2, 0, none⟩) fl.length fl.length, .slice (some ⟨FB, 0, none⟩) fl.length fl.length]] W2 fun e w' => e = .returned (.int .i64 (kntI (kntZ fl))) ∧ Below W2.heap.size W2 w') :=
    gknot_any fl fl.length (fbL fl fl.length (edg fl rs)) (Lg fl (edg fl rs) 2) _ _ _ _ _ _ _ _ W2 rfl HN.out (fbL_len _ _ _) HUP.out HDN.out HAH.out (fun u v h => nxt_lt h.2.1) (HG3.out.lsr (by decide)) HV2.out (HLE.out 2)
  have HME : Hid (∀ (h : Nat) W, bks fl h ≠ [] → h < fl.length → Below W2.heap.size W2 W → Calls Tryd.prog 22 #[.agg #[.slice (some ⟨F 0, 0, none⟩) fl.length fl.length, .slice (some ⟨F 1, 0, none⟩) fl.length fl.length, .slice (some ⟨F 2, 0, none⟩) fl.length fl.length, .slice (some ⟨FB, 0, none⟩) fl.length fl.length], .int .i64 (h : Int)] W (MeP fl h W)) := fun h W hb hh hW =>
    gmembers_any fl fl.length h (Lg fl (edg fl rs) 0) (Lg fl (edg fl rs) 1) _ _ _ _ _ _ _ _ W HN.out hh (fun v hv => hv.lt (bks_rch hb).2 (bks_rch hb).1) HFR.out (fun u => by rw [HBB.out]; exact mem_bks (bks_rch hb).2) ((HG3.out.stay hW).lsr (by decide)) ((HG3.out.stay hW).lsr (by decide)) (HLE.out 0) (HLE.out 1)
  clear HV2 HUP HDN HAH HFR
  have z0 := cell_of_obj HGX.out (j := 0) (v := .slice (some ⟨F 0, 0, none⟩) fl.length fl.length) rfl
  have z1 := cell_of_obj HGX.out (j := 1) (v := .slice (some ⟨F 1, 0, none⟩) fl.length fl.length) rfl
  have z2 := cell_of_obj HGX.out (j := 2) (v := .slice (some ⟨F 2, 0, none⟩) fl.length fl.length) rfl
  have z3 := cell_of_obj HGX.out (j := 3) (v := .slice (some ⟨FB, 0, none⟩) fl.length fl.length) rfl
  rw [HW2.out] at z0 z1 z2 z3
  go_wp2_with fail
  rw [← HW2.out] at z0 z1 z2 z3 ⊢
  refine HKN.out.mono ?_
  rintro e W3 ⟨rfl, bb3⟩
  have HB3 := Hid.mk' bb3
  clear z0 z1 z2 z3 bb3 HKN HW2
  cases hkz : kntZ fl with
  | some v =>
    have HF := Hid.mk' (fnd_knot HN.out hkz)
    have hvn : (0 : Int) ≤ (v : Int) := by omega
    clear hkz
    unfold kntI
    simp only
    go_wp2_with fail
    exact bodyPost_ret (v := .tuple #[.slice none 0 0, .int .i64 70, .int .i64 (v : Int)]) (by simp [results, Tryd.results8, go_sem]) rfl ⟨_, [], by rw [HF.out]; rfl, by rw [HF.out]; rfl, OwnL.nil _ _ _, HB2.out.trans (HB3.out.mono HB2.out.size)⟩
  | none =>
    have HKZ := Hid.mk' hkz
    clear hkz
    unfold kntI
    simp only
    have hg3 := blk_stay HGX.out HB3.out
    have z1 := cell_of_obj hg3 (j := 1) (v := .slice (some ⟨F 1, 0, none⟩) fl.length fl.length) rfl
    clear hg3
    go_wp2_with fail
    have HF0 := Hid.mk' (FI.start fl fl.length W2.heap.size (vs 1) W3)
    have HE0 : Hid (errH fl (List.range 0) = none) := rfl
    clear z1
    go_loopw [7, 8, 30] (fun t7 t8 t30 wr => ∃ (k : Nat) (xs : List Lr) (vl vS : Value), k ≤ fl.length ∧ t7 = vl ∧ t8 = vS ∧ t30 = .int .i64 (k : Int) ∧ FI fl fl.length W2.heap.size (vs 1) xs xs vl vS wr ∧ xs.map Lr.h = hdK fl k ∧ errH fl (List.range k) = none ∧ Below W2.heap.size W2 wr) (fun _ _ t30 _ => fl.length - (intOf t30).toNat)
    case atStart => exact ⟨0, [], _, _, Nat.zero_le _, rfl, rfl, rfl, HF0.out, rfl, HE0.out, HB3.out⟩
    case round =>
      clear HF0 HE0 HB3
      obtain ⟨k, xs, vl, vS, hk, rfl, rfl, rfl, hfi, hxh, herr, hbw⟩ := hrel
      have HFI := Hid.mk' hfi
      have HXH := Hid.mk' hxh
      have HER := Hid.mk' herr
      have HBW := Hid.mk' hbw
      have hxl : xs.length ≤ fl.length := by
        have h1 : (xs.map Lr.h).length = (hdK fl k).length := by rw [hxh]
        have h2 := List.length_filter_le (fun h => !(bks fl h).isEmpty) (List.range k)
        rw [List.length_map] at h1
        rw [List.length_range] at h2
        unfold hdK at h1
        omega
      obtain ⟨la, lc, rfl⟩ := gown_form hfi.list
      obtain ⟨sa, sc, rfl⟩ := gown_form hfi.sets
      have HXL := Hid.mk' hxl
      have hgx := blk_stay HGX.out hbw
      have hnn := HN.out
      clear hfi hxh herr hbw hxl
      by_cases hlt : k < fl.length
      · have hki : (k : Int) < (fl.length : Int) := by omega
        obtain ⟨rb, ro, ab, cb, er, c0, hlb⟩ := ((HG3.out.stay HBW.out).lsr (a := 1) (by decide)) k hlt
        cases er
        rw [HBB.out] at c0 hlb
        rw [Nat.zero_add] at c0
        have HLB := Hid.mk' hlb
        have hbl := bks_len fl k
        have HBL := Hid.mk' hbl
        clear hlb
        by_cases hb0 : bks fl k = []
        · have hq : (((bks fl k).length : Int) == 0) = true := by rw [hb0]; rfl
          have HX2' : Hid (hdK fl (k + 1) = hdK fl k) := hdK_no hb0
          have HE2 := Hid.mk' (errH_snoc HER.out (.inl hb0))
          clear hb0 hgx
          go_wp2_with fail
          go_roundw
          case rel => exact ⟨k + 1, xs, _, _, hlt, rfl, rfl, by go_num, HFI.out, by rw [HX2'.out]; exact HXH.out, HE2.out, HBW.out⟩
          case measure => simp [intOf]; omega
        · have hq : (((bks fl k).length : Int) == 0) = false := beq_no (by
            intro e
            exact hb0 (List.eq_nil_of_length_eq_zero (by omega)))
          have HB0 := Hid.mk' hb0
          have z0 := cell_of_obj hgx (j := 0) (v := .slice (some ⟨F 0, 0, none⟩) fl.length fl.length) rfl
          have z1 := cell_of_obj hgx (j := 1) (v := .slice (some ⟨F 1, 0, none⟩) fl.length fl.length) rfl
          have z2 := cell_of_obj hgx (j := 2) (v := .slice (some ⟨F 2, 0, none⟩) fl.length fl.length) rfl
          have z3 := cell_of_obj hgx (j := 3) (v := .slice (some ⟨FB, 0, none⟩) fl.length fl.length) rfl
          have HVA : Hid ((vs 1).getD k undef = .slice ab (bks fl k).length cb) := by
            have h1 := cell_of_obj ((HG3.out.stay HBW.out).f 1 (by decide)) (j := k) (v := (vs 1).getD k undef) (by rw [List.getElem?_toArray]; exact vs_at (by rw [HG3.out.len 1 (by decide)]; exact hlt))
            rw [c0] at h1
            injection h1 with h1
            exact h1.symm
          clear hb0 hgx
          go_wp2_with fail
          refine (HME.out k _ HB0.out hlt HBW.out).mono ?_
          rintro e Wa ⟨b, s, rfl, hbw2, hms, hsm, bba⟩
          have HMS := Hid.mk' hms
          have hsl : s.length ≤ 1000000 := by
            have := nd_len (n := fl.length) hms.nd fun v hv => ((hsm v).1 hv).lt (bks_rch HB0.out).2 (bks_rch HB0.out).1
            omega
          have HSM : Hid (∀ v, v ∈ s ↔ v ∈ mbs fl k) := fun v => by
            rw [hsm v, mem_mbs]
            exact ⟨fun h => ⟨h, h.lt (bks_rch HB0.out).2 (bks_rch HB0.out).1⟩, fun h => h.1⟩
          have HBA := Hid.mk' bba
          have HBWA : Hid (Below W2.heap.size W2 Wa) := HBW.out.trans (bba.mono HBW.out.size)
          clear hms hsm bba hbw2 z0 z1 z2 z3 c0
          go_wp2_with fail
          refine (lsorted_any b s Wa HMS.out hsl).mono ?_
          rintro e Wb ⟨vm, ks, rfl, onb, hri, hmem, bbb⟩
          have hks : ks = mbs fl k := rise_same hri (mbs_rise fl k) fun v => by rw [hmem, HSM.out]
          subst hks
          obtain ⟨am, cm, rfl⟩ := gown_form onb
          have HONB := Hid.mk' onb
          have HBB2 : Hid (Below W2.heap.size W2 Wb) := HBWA.out.trans (bbb.mono HBWA.out.size)
          have HBAB : Hid (Below wr.heap.size wr Wb) := HBA.out.trans (bbb.mono HBA.out.size)
          have HMSB := Hid.mk' (HMS.out.stay bbb)
          have hml := mbs_len fl k
          have HML := Hid.mk' hml
          have HWR : Hid (wr.heap.size ≤ Wa.heap.size) := HBA.out.size
          clear onb hri hmem bbb HMS HBA hsl
          obtain ⟨Wc, hWc⟩ : ∃ X, X = Wb.alloc (.cells #[.int .i64 (k : Int), .int .i64 0, .slice am (mbs fl k).length cm, .slice ab (bks fl k).length cb] 40) := ⟨_, rfl⟩
          have hbc : Below Wb.heap.size Wb Wc := by rw [hWc]; exact Below.one (Below.refl _ Wb) _
          have hlc : Wc.heap[Wb.heap.size]? = some (.cells #[.int .i64 (k : Int), .int .i64 0, .slice am (mbs fl k).length cm, .slice ab (bks fl k).length cb] 40) := by rw [hWc]; exact heap_alloc_new Wb _
          have HLC := Hid.mk' hlc
          have HBC : Hid (Below W2.heap.size W2 Wc) := HBB2.out.trans (hbc.mono HBB2.out.size)
          have HRC : Hid (Below wr.heap.size wr Wc) := HBAB.out.trans (hbc.mono HBAB.out.size)
          have HMSC := Hid.mk' (HMSB.out.stay hbc)
          have HONC := Hid.mk' (own_stay HONB.out hbc)
          have hxc := blk_stay HX2.out HBC.out
          have y4 := cell_of_obj hxc (j := 4) (v := .slice fca fl.length fcc) rfl
          have l0 := cell_of_obj hlc (j := 0) (v := .int .i64 (k : Int)) rfl
          have l1 := cell_of_obj hlc (j := 1) (v := .int .i64 0) rfl
          have l2 := cell_of_obj hlc (j := 2) (v := .slice am (mbs fl k).length cm) rfl
          have l3 := cell_of_obj hlc (j := 3) (v := .slice ab (bks fl k).length cb) rfl
          have hbwc : Below w.heap.size w Wc := HB2.out.trans (HBC.out.mono HB2.out.size)
          have HCK := Hid.mk' (lcheck_any fl k 0 (mbs fl k) (bks fl k) fca am ab fcc cm cb b s Wc (HI.out.stay hbwc) HOK.out hlt (fun v hv => (mem_mbs' hv).2) (fun v hv => (mem_bks' hv).2) (by omega) (by omega) (own_lst HONC.out) (HLB.out.stay HRC.out) HMSC.out HSM.out (HTA.out.stay hbwc))
          have HWC := Hid.mk' hWc
          clear hbc hlc hxc hbwc hWc HMSB HONB HBB2 HBAB
          rw [HWC.out] at y4 l0 l1 l2 l3
          go_wp2_with fail
          rw [← HWC.out] at y4 l0 l1 l2 l3 ⊢
          refine HCK.out.mono ?_
          rintro e Wd ⟨rfl, bbd⟩
          have HBD : Hid (Below W2.heap.size W2 Wd) := HBC.out.trans (bbd.mono HBC.out.size)
          have HRD : Hid (Below wr.heap.size wr Wd) := HRC.out.trans (bbd.mono HRC.out.size)
          have HMSD := Hid.mk' (HMSC.out.stay bbd)
          have HOND := Hid.mk' (own_stay HONC.out bbd)
          have l0 := cell_kept_below l0 bbd
          have l1 := cell_kept_below l1 bbd
          have l2 := cell_kept_below l2 bbd
          have l3 := cell_kept_below l3 bbd
          clear bbd HCK HWC y4 HMSC HONC HLC
          cases hcz : cntZ fl k (bks fl k) (mbs fl k) with
          | some p =>
            have HF := Hid.mk' (fnd_err HN.out HKZ.out (errH_here HER.out hlt HB0.out hcz))
            have hp0 := cnt_ne hcz
            have hqp : ((p.1 : Int) != 0) = true := bne_of (by omega)
            clear hcz hp0
            unfold cntV
            simp only
            go_wp2_with fail
            exact bodyPost_ret (v := .tuple #[.slice none 0 0, .int .i64 (p.1 : Int), .int .i64 (p.2 : Int)]) (by simp [results, Tryd.results8, go_sem]) rfl ⟨_, [], by rw [HF.out], by rw [HF.out]; rfl, OwnL.nil _ _ _, HB2.out.trans (HBD.out.mono HB2.out.size)⟩
          | none =>
            have HE2 := Hid.mk' (errH_snoc HER.out (.inr hcz))
            have HX2' : Hid (hdK fl (k + 1) = hdK fl k ++ [k]) := hdK_yes HB0.out
            clear hcz
            unfold cntV
            simp only
            have HFD := Hid.mk' (HFI.out.stay HRD.out)
            have hszd : W2.heap.size ≤ Wd.heap.size := HBD.out.size
            have hxl := HXL.out
            have HAP1 := Hid.mk' (lp_app HFD.out.list hszd (by omega) (.int .i64 (k : Int)) (.int .i64 0) (.slice am (mbs fl k).length cm) (.slice ab (bks fl k).length cb) (by simp [Value.oneCell']) 27)
            -- the new loop
            obtain ⟨x, hx⟩ : ∃ x : Lr, x = ⟨k, 0, am, cm, ab, cb, b⟩ := ⟨_, rfl⟩
            have hxc : x.cells fl = [.int .i64 (k : Int), .int .i64 0, .slice am (mbs fl k).length cm, .slice ab (bks fl k).length cb] := by rw [hx]; rfl
            have hxs : x.sv = .map (some b) := by rw [hx]; rfl
            have hxh : x.h = k := by rw [hx]
            have hxm : x.mv fl = .slice am (mbs fl k).length cm := by rw [hx]; rfl
            have hxv : x.bv fl = .slice ab (bks fl k).length cb := by rw [hx]; rfl
            have hxb : x.b = b := by rw [hx]
            have HXC := Hid.mk' hxc
            have HXS := Hid.mk' hxs
            have HXHH := Hid.mk' hxh
            have HNEW : Hid (∀ W, On Wa.heap.size (mbs fl k) (.slice am (mbs fl k).length cm) W → Mst W b s → On W2.heap.size (mbs fl x.h) (x.mv fl) W ∧ (x.h < fl.length ∧ x.bv fl = (vs 1).getD x.h undef) ∧ (∃ s, Mst W x.b s ∧ ∀ v, v ∈ s ↔ v ∈ mbs fl x.h) ∧ (∀ y ∈ xs, Apart (y.mv fl) (x.mv fl)) ∧ (∀ j, j < fl.length → Apart (x.mv fl) ((vs 1).getD j undef)) ∧ ∀ y ∈ xs, y.h < x.h) := fun W ho hm => by
              rw [hxh, hxm, hxv, hxb]
              refine ⟨own_mono ho (Nat.le_trans HBW.out.size HWR.out), ⟨hlt, HVA.out.symm⟩, ⟨s, hm, HSM.out⟩, fun y hy => ?_, fun j hj => ?_, fun y hy => ?_⟩
              · exact (apart_new ho (HFI.out.mem y hy) HWR.out).symm
              · obtain ⟨N', n', xs', h'⟩ := HVR.out j hj
                exact apart_new ho h' (Nat.le_trans (Nat.le_trans (by have := HS2.out; omega) HBW.out.size) HWR.out)
              · have : y.h ∈ hdK fl k := by rw [← HXH.out]; exact List.mem_map.2 ⟨y, hy, rfl⟩
                exact hdK_lt this
            clear hx hxc hxs hxh hxm hxv hxb
            go_upto_region 19 with (at_builtin; refine wpl_app rfl _ _ 27 27 _ _ rfl rfl rfl HAP1.out ?_; rintro v5 W5 ⟨on5, gr5⟩)
            rw [← HXC.out] at on5
            have HF5 := Hid.mk' (HFD.out.more gr5 on5)
            have HON5 := Hid.mk' (own_keepT HOND.out (grown_keepT HFD.out.list gr5 (by decide)))
            have HM5 := Hid.mk' (HMSD.out.kept gr5 (HMSD.out.row HFD.out.list))
            have HB5 : Hid (Below W2.heap.size W2 W5) := HBD.out.grown gr5 hszd (fun j e => own_base HFD.out.list j e)
            have hsz5 : W2.heap.size ≤ W5.heap.size := HB5.out.size
            have HAP2 := Hid.mk' (st_app HF5.out.sets hsz5 (by omega) b 61)
            clear gr5 on5 l0 l1 l2 l3 HAP1 HFD HOND HMSD
            go_wp2_with (at_builtin; refine wpl_app rfl _ _ 61 61 _ _ rfl rfl rfl HAP2.out ?_; rintro v6 W6 ⟨on6, gr6⟩)
            rw [← HXS.out] at on6
            obtain ⟨n1, n2, n3, n4, n5, n6⟩ := HNEW.out W5 HON5.out HM5.out
            have HF6 := Hid.mk' (HF5.out.full gr6 on6 n1 n2 n3 n4 n5 n6)
            have HB6 : Hid (Below W2.heap.size W2 W6) := HB5.out.grown gr6 hsz5 (fun j e => own_base HF5.out.sets j e)
            go_roundw
            case rel => exact ⟨k + 1, xs ++ [x], _, _, hlt, rfl, rfl, by go_num, HF6.out, by rw [List.map_append, HX2'.out, HXH.out]; show _ ++ [x.h] = _; rw [HXHH.out], HE2.out, HB6.out⟩
            case measure => simp [intOf]; omega
      · have hki : ¬ (k : Int) < (fl.length : Int) := by omega
        have hkn : k = fl.length := by omega
        subst hkn
        have HFN := Hid.mk' (fnd_ok HN.out HKZ.out HER.out)
        have HD : Hid (xs.map Lr.h = hds fl) := HXH.out
        have hdl : (hds fl).length = xs.length := by rw [← HD.out, List.length_map]
        have HDL := Hid.mk' hdl
        have hx4 : xs.length ≤ 1024 := Nat.le_trans HXL.out HN.out
        have HS1' : Hid (∀ v ∈ hds fl, v ≤ 1024) := fun v hv => Nat.le_trans (Nat.le_of_lt (hdK_lt (hdK_all fl ▸ hv))) HN.out
        clear hgx hdl HXH HVR HME HLE HX2 HI HOK HTA HKZ HER
        go_wp2_with fail
        go_loopw [69] (fun t69 wl => ∃ (i : Nat) (ys : List Lr), i ≤ xs.length ∧ ys.length = xs.length ∧ t69 = .int .i64 (i : Int) ∧ FI fl fl.length W2.heap.size (vs 1) ys ys (.slice la xs.length lc) (.slice sa xs.length sc) wl ∧ ys.map Lr.h = hds fl ∧ (∀ j y, ys[j]? = some y → j < i → y.p = parK (hds fl) ((hds fl).map (mbs fl)) j xs.length) ∧ Below W2.heap.size W2 wl) (fun t69 _ => xs.length - (intOf t69).toNat)
        case atStart => exact ⟨0, xs, Nat.zero_le _, rfl, rfl, HFI.out, HD.out, fun j y _ h => absurd h (Nat.not_lt_zero _), HBW.out⟩
        case round =>
          clear HFI HBW
          obtain ⟨i, ys, hi, hyl, rfl, hfi, hyh, hyp, hbw⟩ := hrel
          have HFI := Hid.mk' hfi
          have HYH := Hid.mk' hyh
          have HYP := Hid.mk' hyp
          have HBW := Hid.mk' hbw
          have HYL := Hid.mk' hyl
          clear hfi hyh hyp hbw hyl
          by_cases hit : i < xs.length
          · have hii : (i : Int) < (xs.length : Int) := by omega
            have hpc := lparent_any (hds fl) ((hds fl).map (mbs fl)) la sa lc sc i _ (by rw [HDL.out]; exact hit) (by rw [HDL.out]; exact hx4) HS1'.out (by have := HFI.out.pai; rw [HYH.out] at this; exact this)
            rw [HDL.out] at hpc
            have HPC := Hid.mk' hpc
            clear hpc
            obtain ⟨g, hg⟩ : ∃ g, la = some ⟨g, 0, none⟩ := by
              rcases HFI.out.list.2 with ⟨_, e⟩ | ⟨g, cap, cur, e, _⟩
              · have h1 := HFI.out.list.1
                have := HYL.out
                omega
              · injection e with e1 _ _
                exact ⟨g, e1⟩
            subst hg
            go_wp2_with fail
            refine HPC.out.mono ?_
            rintro e Wp ⟨rfl, bbp⟩
            have HFP := Hid.mk' (HFI.out.stay bbp)
            have HBP : Hid (Below W2.heap.size W2 Wp) := HBW.out.trans (bbp.mono HBW.out.size)
            clear bbp HPC HFI
            have hil : i < ys.length := by have := HYL.out; omega
            have hys : ys[i]? = some ys[i] := List.getElem?_eq_getElem hil
            have HYS := Hid.mk' hys
            have y1 : Wp.cell? ⟨g, i * 4 + 1, none⟩ = some (.int .i64 (ys[i].p)) := by
              have := HFP.out.list.cells (g := g) rfl (i * 4 + 1) (.int .i64 (ys[i].p)) (flat_at (Lr.cells_len fl) ys i 1 ys[i] (.int .i64 (ys[i].p)) hys rfl)
              rw [Addr.add_lit, Nat.zero_add] at this
              exact this
            have ho1 := HFP.out.list
            rw [HYL.out] at ho1
            have f1 := World.ownsRow.frozenAt ho1 (i * 4 + 1)
            clear ho1
            clear hys
            go_wp2_with fail
            have HFQ := Hid.mk' (HFP.out.par HYS.out (parK (hds fl) ((hds fl).map (mbs fl)) i xs.length))
            go_roundw
            case rel =>
              refine ⟨i + 1, ys.set i { ys[i] with p := parK (hds fl) ((hds fl).map (mbs fl)) i xs.length }, hit, by rw [List.length_set]; exact HYL.out, by go_num, HFQ.out, ?_, fun j y hy hj => ?_, ?_⟩
              · rw [← HYH.out, List.map_set]
                exact set_self' (by rw [List.getElem?_map, HYS.out]; rfl)
              · by_cases e : i = j
                · subst e
                  rw [List.getElem?_set_self hil] at hy
                  cases hy
                  rfl
                · rw [List.getElem?_set_ne e] at hy
                  exact HYP.out j y hy (by omega)
              · exact HBP.out.setCell (own_base HFP.out.list g rfl) _
            case measure => simp [intOf]; omega
          · have hix : ¬ (i : Int) < (xs.length : Int) := by omega
            have hin : i = xs.length := by omega
            subst hin
            have HR : Hid (ys.map (Lr.lo fl) = (fndZ fl).ls ∧ OwnL fl w.heap.size ys (.slice la xs.length lc) _ ∧ Below w.heap.size w _) := ⟨by
              rw [HFN.out]
              exact lops_done HYH.out fun j y hy => by rw [HDL.out]; exact HYP.out j y hy (by have := (List.getElem?_eq_some_iff.1 hy).1; have := HYL.out; omega), HFI.out.ownL (HG3.out.stay HBW.out) HBB.out HB2.out.size (by have := HS1.out; omega), HB2.out.trans (HBW.out.mono HB2.out.size)⟩
            clear HFI HBW HYP
            go_wp2_with fail
            exact bodyPost_ret (v := .tuple #[.slice la xs.length lc, .int .i64 0, .int .i64 0]) (by simp [results, Tryd.results8, go_sem]) rfl ⟨_, ys, by rw [HFN.out]; rfl, HR.out⟩
end Go.Proofs.YtgiokognngllcaaDoor
