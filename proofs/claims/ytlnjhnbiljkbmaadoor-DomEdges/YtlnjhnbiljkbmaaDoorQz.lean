/- The law DomEdges. -/
import Derived.Test.YtlnjhnbiljkbmaaDoorQx
import Derived.Test.YtlnjhnbiljkbmaaDoorNp
namespace Go.Proofs.YtlnjhnbiljkbmaaDoor
open Go.RowKit Go.Shelf

theorem tmod_in (p : Int) (n : Nat) (h : 0 < n) : -(n : Int) < p.tmod n ∧ p.tmod n < n := by
  have h1 := Int.natAbs_tmod p n
  have h2 := Nat.mod_lt p.natAbs (show 0 < (n : Int).natAbs by omega)
  omega
set_option maxRecDepth 100000 in
set_option maxHeartbeats 4000000 in
theorem domEdges_any (f : Fn) (pick : Int) (w : World) (hi : Iss w f.ca f.code) (hc : f.code.length ≤ f.cc) (hG : 0 < w.heap.size) (hT : Tb w) : Calls Tryd.prog 6 #[f.val, .int .i64 pick] w fun e w' => e = .returned (.bool true) ∧ Below w.heap.size w w' := by
  have HFX : Hid (∀ W, Below w.heap.size w W → Calls Tryd.prog 10 #[] W fun e w' => e = .returned (.bool true) ∧ Below W.heap.size W w') := fun W hb => fixed_any W (Nat.lt_of_lt_of_le hG hb.size) (hT.keep (hb.block _ hG))
  have HTR : Hid (∀ W, Below w.heap.size w W → Calls Tryd.prog 12 #[f.val] W (TrP f.code W)) := fun W hb => tree_any f W (hi.stay hb) hc (Nat.lt_of_lt_of_le hG hb.size) (hT.keep (hb.block _ hG))
  have HDM : Hid (∀ (a b : Int) W, Below w.heap.size w W → Calls Tryd.prog 8 #[f.val, .int .i64 a, .int .i64 b] W (DmP f.code a b W)) := fun a b W hb => dominates_any f a b W (hi.stay hb) hc
  have HRE : Hid (∀ W, Below w.heap.size w W → Calls Tryd.prog 15 #[f.val] W (ReP f.code W)) := fun W hb => rreach_any f W (hi.stay hb)
  have HED : Hid (∀ W, Below w.heap.size w W → Calls Tryd.prog 17 #[f.val] W (REP f.code W)) := fun W hb => redges_any f W (hi.stay hb)
  clear hi hc hG hT
  obtain ⟨fn, fpa, fpc, fps, frg, fwd, fca, fcc, fl⟩ := f
  unfold Fn.val at *
  simp only at HTR HDM HRE HED ⊢
  obtain ⟨W0, hW0⟩ : ∃ X, X = w.alloc (.cells #[.string fn, .slice fpa fps.length fpc, .int .i64 frg, .int .i64 fwd, .slice fca fl.length fcc] 25) := ⟨_, rfl⟩
  have hb0 : Below w.heap.size w W0 := by rw [hW0]; exact Below.one (Below.refl _ w) _
  have hx : W0.heap[w.heap.size]? = some (.cells #[.string fn, .slice fpa fps.length fpc, .int .i64 frg, .int .i64 fwd, .slice fca fl.length fcc] 25) := by rw [hW0]; exact heap_alloc_new w _
  have HZ : Hid (∀ W, Below W0.heap.size W0 W → W.cell? ⟨w.heap.size, 0, none⟩ = some (.string fn) ∧ W.cell? ⟨w.heap.size, 1, none⟩ = some (.slice fpa fps.length fpc) ∧ W.cell? ⟨w.heap.size, 2, none⟩ = some (.int .i64 frg) ∧ W.cell? ⟨w.heap.size, 3, none⟩ = some (.int .i64 fwd) ∧ W.cell? ⟨w.heap.size, 4, none⟩ = some (.slice fca fl.length fcc)) := fun W hb => by
    have h := blk_stay hx hb
    exact ⟨cell_of_obj h rfl, cell_of_obj h rfl, cell_of_obj h rfl, cell_of_obj h rfl, cell_of_obj h rfl⟩
  have HON : Hid (∀ W, Below W0.heap.size W0 W → Below w.heap.size w W) := fun W hb => Below.on hb0 hb
  have HW0 := Hid.mk' hW0
  clear hx hb0 hW0
  go_enter Tryd.func6, Tryd.ntmps6
  go_wp2_with fail
  rw [← HW0.out]
  refine (HFX.out W0 (HON.out _ (Below.refl _ _))).mono ?_
  rintro e W1 ⟨rfl, bb1⟩
  have HB1 := Hid.mk' bb1
  clear bb1 HW0
  obtain ⟨z0, z1, z2, z3, z4⟩ := HZ.out W1 HB1.out
  go_wp2_with fail
  refine (HTR.out W1 (HON.out _ HB1.out)).mono ?_
  rintro e W2 ⟨g, ts, rfl, hit, hoi, bb2⟩
  have HB2 := Hid.mk' (Below.on HB1.out bb2)
  have HIT := Hid.mk' hit
  have HOI := Hid.mk' hoi
  clear bb2 hit hoi z0 z1 z2 z3 z4
  obtain ⟨z0, z1, z2, z3, z4⟩ := HZ.out W2 HB2.out
  go_wp2_with fail
  refine (HED.out W2 (HON.out _ HB2.out)).mono ?_
  rintro e WE ⟨ve, rs', rfl, hir', hoe, bbe⟩
  obtain ⟨ea, ec, rfl⟩ := gown_form hoe
  have HBE := Hid.mk' (Below.on HB2.out bbe)
  have HOE := Hid.mk' hoe
  have HI1 := Hid.mk' hir'
  have HO2 := Hid.mk' (own_stay HOI.out bbe)
  clear bbe hoe hir' z0 z1 z2 z3 z4
  obtain ⟨z0, z1, z2, z3, z4⟩ := HZ.out WE HBE.out
  go_wp2_with fail
  refine (HRE.out WE (HON.out _ HBE.out)).mono ?_
  rintro e W3 ⟨vr, rs, rfl, hir, hob, bb3⟩
  obtain ⟨ra, rc, rfl⟩ := gown_form hob
  obtain rfl := HI1.out.one hir
  have HB3 := Hid.mk' (Below.on HBE.out bb3)
  have HIR := Hid.mk' hir
  have HO3 := Hid.mk' (own_stay HO2.out bb3)
  have HE3 := Hid.mk' (own_stay HOE.out bb3)
  have hln : rs'.length = ts.length := by
    rcases HIR.out with ⟨h, e⟩ | ⟨h1, h2, h3, _⟩
    · rcases HIT.out with ⟨_, e2⟩ | ⟨g1, g2, _⟩
      · rw [e, e2]; rfl
      · omega
    · rcases HIT.out with ⟨h, _⟩ | ⟨_, _, g3, _⟩
      · omega
      · omega
  have HLN := Hid.mk' hln
  have htl : ts.length ≤ 1024 := by rw [← hln]; exact HIR.out.len
  have hel : (edg fl rs').length ≤ 3000 := by
    have := edU_len fl rs' rs'.length
    unfold edg
    omega
  rw [hln]
  have hq : ((ts.length : Int) != (ts.length : Int)) = false := bne_no rfl
  have HEM : Hid (∀ i u v, (edg fl rs')[i]? = some (u, v) → Rch fl u ∧ v ∈ nxt fl u ∧ u < ts.length ∧ v < ts.length ∧ 0 < fl.length ∧ fl.length ≤ 1024 ∧ ts.length = fl.length) := fun i u v h => by
    have hm := List.mem_of_getElem? h
    obtain ⟨k1, k2⟩ := mem_edg.1 hm
    have hul := (List.getElem?_eq_some_iff.1 k1).1
    have hvl := nxt_lt k2
    rcases HIR.out with ⟨_, e⟩ | ⟨h1, h2, h3, h4⟩
    · rw [e] at hul; simp at hul
    · have := HLN.out
      exact ⟨(h4 u).1 k1, k2, by omega, by omega, h1, h2, by omega⟩
  clear bb3 hir hob z0 z1 z2 z3 z4 HO2 HOE HI1 HOI hln
  generalize edg fl rs' = es at *
  by_cases he0 : es.length = 0
  · have hq2 : ((es.length : Int) == 0) = true := by simp [he0]
    clear he0
    go_wp2_with fail
    go_ret
    exact ⟨rfl, HON.out _ HB3.out⟩
  have hq2 : ((es.length : Int) == 0) = false := beq_no (by omega)
  have hep : 0 < es.length := by omega
  have hne : ¬ ((es.length : Int) = 0) := by omega
  go_upto_region 11 with fail
  obtain ⟨q1, q2⟩ := tmod_in pick es.length hep
  generalize pick.tmod (es.length : Int) = q at *
  obtain ⟨k, hk1, hk2⟩ : ∃ k : Nat, (q < 0 → IntKind.i64.wrap (-q) = (k : Int)) ∧ (¬ q < 0 → q = (k : Int)) ∧ k < es.length := by
    by_cases h : q < 0
    · exact ⟨(-q).toNat, fun _ => by rw [IntKind.wrap_i64]; omega, fun h' => absurd h h', by omega⟩
    · exact ⟨q.toNat, fun h' => absurd h' h, fun _ => by omega, by omega⟩
  obtain ⟨hk2, hkl⟩ := hk2
  have HT3 : Hid (∀ W, Below W3.heap.size W3 W → ∀ v r : Nat, v < ts.length → ts[v]? = some (r : Int) → W.cell? ⟨g, v, none⟩ = some (.int .i64 (r : Int))) := fun W hb v r hv hr => by
    have hc := oi_at (own_stay HO3.out hb) hv
    rw [List.getElem?_eq_getElem hv] at hr
    rw [hc, Option.some.inj hr]
  have HED3 : Hid (∀ W, Below W3.heap.size W3 W → ∀ j u v : Nat, es[j]? = some (u, v) → ∃ b, ea = some ⟨b, 0, none⟩ ∧ W.cell? ⟨b, j * 2, none⟩ = some (.int .i64 (u : Int)) ∧ W.cell? ⟨b, j * 2 + 1, none⟩ = some (.int .i64 (v : Int))) := fun W hb j u v hj => by
    have ho := own_stay HE3.out hb
    rcases ho.2 with ⟨e, h0⟩ | ⟨gg, cap, cur, e, _⟩
    · have := (List.getElem?_eq_some_iff.1 hj).1; omega
    · cases e
      obtain ⟨b, o, e', c0, c1⟩ := es_at (own_row ho (fun _ => rfl) (by have := hel; omega)) hj
      cases e'
      exact ⟨gg, rfl, by simpa using c0, by simpa using c1⟩
  clear HO3 HE3
  by_cases hqn : q < 0
  all_goals first | (have hw := hk1 hqn) | (obtain rfl := hk2 hqn)
  all_goals clear hk1 hk2
  · go_wp2_with fail
    go_loopw [9] (fun t9 wr => ∃ i : Nat, t9 = .int .i64 (i : Int) ∧ i ≤ 20 ∧ Below W3.heap.size W3 wr) (fun t9 _ => 20 - (intOf t9).toNat)
    case atStart => exact ⟨0, rfl, by omega, Below.refl _ _⟩
    case round =>
      obtain ⟨i, rfl, hi20, hbw⟩ := hrel
      have HBW := Hid.mk' hbw
      clear hbw
      by_cases hi1 : i < 20
      · have hi1i : (i : Int) < 20 := by omega
        by_cases hi2 : i < es.length
        · have hi2i : (i : Int) < (es.length : Int) := by omega
          obtain ⟨j, hj⟩ : ∃ j, j = (k + i) % es.length := ⟨_, rfl⟩
          have hjl : j < es.length := by rw [hj]; exact Nat.mod_lt _ hep
          have hjj : ((k : Int) + (i : Int)).tmod (es.length : Int) = (j : Int) := by
            rw [Int.tmod_eq_emod_of_nonneg (by omega), hj, ← Int.natCast_add]
            rfl
          have hjli : (j : Int) < (es.length : Int) := by omega
          obtain ⟨⟨u, v⟩, huv⟩ : ∃ x, es[j]? = some x := ⟨_, List.getElem?_eq_getElem hjl⟩
          obtain ⟨b, rfl, c0, c1⟩ := HED3.out wr HBW.out j u v huv
          obtain ⟨hru, hnx, hul, hvl, hl0, hl1, hl2⟩ := HEM.out j u v huv
          have HBX := Hid.mk' (Below.one HBW.out (.cells #[.int .i64 (u : Int), .int .i64 (v : Int)] 44))
          have HXX := Hid.mk' (heap_alloc_new wr (.cells #[.int .i64 (u : Int), .int .i64 (v : Int)] 44))
          have HIDM : Hid (v ≠ 0 → ∃ r : Nat, ts[v]? = some (r : Int) ∧ r < ts.length ∧ domb fl (r : Int) (u : Int) = true) := fun hv0 => by
            rcases HIT.out with ⟨_, e⟩ | ⟨_, _, _, h⟩
            · rw [e] at hvl; simp at hvl
            · rcases h v (by omega) with ⟨_, h⟩ | ⟨r, h1, h2⟩
              · exact absurd ⟨.step hru hnx, hv0⟩ h
              · refine ⟨r, h1, by have := h2.1.left.lt hl0; omega, domb_true.2 ⟨hl0, hl1, by omega, by omega, ?_⟩⟩
                simp only [Int.toNat_natCast]
                exact h2.1.edge hru hnx h2.2.1
          have hvli : (v : Int) < (ts.length : Int) := by omega
          clear hj huv hru hnx hl0 hl1 hl2 HED3 HEM
          go_upto_region 17 with fail
          generalize wr.alloc (.cells #[.int .i64 (u : Int), .int .i64 (v : Int)] 44) = wr1 at *
          generalize wr.heap.size = X at *
          have e0 := cell_of_obj HXX.out (j := 0) (v := .int .i64 (u : Int)) rfl
          have e1 := cell_of_obj HXX.out (j := 1) (v := .int .i64 (v : Int)) rfl
          clear c0 c1
          by_cases hv0 : v = 0
          · have hq4 : ((v : Int) != 0) = false := bne_no (by omega)
            clear hv0
            go_quiet (fail)
            clear e0 e1
            have HBQ : Hid (Below wr1.heap.size wr1 (wr1.drewN nq)) := Below.drewN (Below.refl _ wr1) nq
            generalize wr1.drewN nq = Wq at *
            obtain ⟨z0, z1, z2, z3, z4⟩ := HZ.out Wq (Below.on HB3.out (Below.on HBX.out HBQ.out))
            have e0 := cell_of_obj (blk_stay HXX.out HBQ.out) (j := 0) (v := .int .i64 (u : Int)) rfl
            have e1 := cell_of_obj (blk_stay HXX.out HBQ.out) (j := 1) (v := .int .i64 (v : Int)) rfl
            by_cases huv : u = v
            · have hq3 : ((u : Int) != (v : Int)) = false := bne_no (by omega)
              clear huv
              go_wp2_with fail
              go_roundw
              case rel => exact ⟨i + 1, by go_num, by omega, Below.on HBX.out HBQ.out⟩
              case measure => simp [intOf]; omega
            · have hq3 : ((u : Int) != (v : Int)) = true := bne_of (by omega)
              have HAN : Hid (domb fl (u : Int) (v : Int) = true → domb fl (v : Int) (u : Int) = false) := fun h1 => domb_false fun h2 => huv (by
                have d1 := (domb_true.1 h1).2.2.2.2
                have d2 := h2.2.2.2.2
                simp only [Int.toNat_natCast] at d1 d2
                exact d1.anti d2)
              clear huv
              go_wp2_with fail
              refine (HDM.out u v Wq (HON.out _ (Below.on HB3.out (Below.on HBX.out HBQ.out)))).mono ?_
              rintro e Wy ⟨rfl, bby⟩
              have HBY := Hid.mk' (Below.on HBQ.out bby)
              clear bby z0 z1 z2 z3 z4 e0 e1
              obtain ⟨D, hD⟩ : ∃ D, domb fl (u : Int) (v : Int) = D := ⟨_, rfl⟩
              rw [hD] at HAN ⊢
              clear hD
              cases D
              · go_wp2_with fail
                go_roundw
                case rel => exact ⟨i + 1, by go_num, by omega, Below.on HBX.out HBY.out⟩
                case measure => simp [intOf]; omega
              · have HA2 := Hid.mk' (HAN.out rfl)
                obtain ⟨z0, z1, z2, z3, z4⟩ := HZ.out Wy (Below.on HB3.out (Below.on HBX.out HBY.out))
                have e0 := cell_of_obj (blk_stay HXX.out HBY.out) (j := 0) (v := .int .i64 (u : Int)) rfl
                have e1 := cell_of_obj (blk_stay HXX.out HBY.out) (j := 1) (v := .int .i64 (v : Int)) rfl
                go_wp2_with fail
                refine (HDM.out v u Wy (HON.out _ (Below.on HB3.out (Below.on HBX.out HBY.out)))).mono ?_
                rintro e Wz ⟨rfl, bbz⟩
                rw [HA2.out]
                have HBZ := Hid.mk' (Below.on HBY.out bbz)
                clear bbz z0 z1 z2 z3 z4 e0 e1
                go_wp2_with fail
                go_roundw
                case rel => exact ⟨i + 1, by go_num, by omega, Below.on HBX.out HBZ.out⟩
                case measure => simp [intOf]; omega
          · have hq4 : ((v : Int) != 0) = true := bne_of (by omega)
            obtain ⟨r, hr1, hr2, hr3⟩ := HIDM.out hv0
            have d1 := HT3.out wr1 HBX.out v r hvl hr1
            have hrn : ¬ (r : Int) < 0 := by omega
            have HR3 := Hid.mk' hr3
            obtain ⟨z0, z1, z2, z3, z4⟩ := HZ.out wr1 (Below.on HB3.out HBX.out)
            clear hv0 hr1 hr3 HIDM
            have p0 : ∀ w', Below wr1.heap.size wr1 w' → w'.cell? _ = some _ := fun w' h => cell_kept_below z0 h
            have p1 : ∀ w', Below wr1.heap.size wr1 w' → w'.cell? _ = some _ := fun w' h => cell_kept_below z1 h
            have p2 : ∀ w', Below wr1.heap.size wr1 w' → w'.cell? _ = some _ := fun w' h => cell_kept_below z2 h
            have p3 : ∀ w', Below wr1.heap.size wr1 w' → w'.cell? _ = some _ := fun w' h => cell_kept_below z3 h
            have p4 : ∀ w', Below wr1.heap.size wr1 w' → w'.cell? _ = some _ := fun w' h => cell_kept_below z4 h
            have pd : ∀ w', Below wr1.heap.size wr1 w' → w'.cell? _ = some _ := fun w' h => cell_kept_below d1 h
            have pe : ∀ w', Below wr1.heap.size wr1 w' → w'.cell? _ = some _ := fun w' h => cell_kept_below e0 h
            have pf : ∀ w', Below wr1.heap.size wr1 w' → w'.cell? _ = some _ := fun w' h => cell_kept_below e1 h
            clear z0 z1 z2 z3 z4 d1 e0 e1
            go_region_held3 (fun w' => Below wr1.heap.size wr1 w') (first | exact Below.drew (Below.refl _ _) | exact Below.on (by assumption) (by assumption) | exact Below.one (by assumption) _)
              (first
                | (go_at_call 8; refine (HDM.out r u _ (HON.out _ (Below.on HB3.out (Below.on HBX.out (by assumption))))).mono ?_; rintro e w' ⟨rfl, hb⟩; rw [HR3.out]))
            have hB : Below wr1.heap.size wr1 w' := by assumption
            have HBQ := Hid.mk' hB
            clear p0 p1 p2 p3 p4 pd pe pf hB
            obtain ⟨z0, z1, z2, z3, z4⟩ := HZ.out w' (Below.on HB3.out (Below.on HBX.out HBQ.out))
            have e0 := cell_of_obj (blk_stay HXX.out HBQ.out) (j := 0) (v := .int .i64 (u : Int)) rfl
            have e1 := cell_of_obj (blk_stay HXX.out HBQ.out) (j := 1) (v := .int .i64 (v : Int)) rfl
            by_cases huv : u = v
            · have hq3 : ((u : Int) != (v : Int)) = false := bne_no (by omega)
              clear huv
              go_wp2_with fail
              go_roundw
              case rel => exact ⟨i + 1, by go_num, by omega, Below.on HBX.out HBQ.out⟩
              case measure => simp [intOf]; omega
            · have hq3 : ((u : Int) != (v : Int)) = true := bne_of (by omega)
              have HAN : Hid (domb fl (u : Int) (v : Int) = true → domb fl (v : Int) (u : Int) = false) := fun h1 => domb_false fun h2 => huv (by
                have d1 := (domb_true.1 h1).2.2.2.2
                have d2 := h2.2.2.2.2
                simp only [Int.toNat_natCast] at d1 d2
                exact d1.anti d2)
              clear huv
              go_wp2_with fail
              refine (HDM.out u v w' (HON.out _ (Below.on HB3.out (Below.on HBX.out HBQ.out)))).mono ?_
              rintro e Wy ⟨rfl, bby⟩
              have HBY := Hid.mk' (Below.on HBQ.out bby)
              clear bby z0 z1 z2 z3 z4 e0 e1
              obtain ⟨D, hD⟩ : ∃ D, domb fl (u : Int) (v : Int) = D := ⟨_, rfl⟩
              rw [hD] at HAN ⊢
              clear hD
              cases D
              · go_wp2_with fail
                go_roundw
                case rel => exact ⟨i + 1, by go_num, by omega, Below.on HBX.out HBY.out⟩
                case measure => simp [intOf]; omega
              · have HA2 := Hid.mk' (HAN.out rfl)
                obtain ⟨z0, z1, z2, z3, z4⟩ := HZ.out Wy (Below.on HB3.out (Below.on HBX.out HBY.out))
                have e0 := cell_of_obj (blk_stay HXX.out HBY.out) (j := 0) (v := .int .i64 (u : Int)) rfl
                have e1 := cell_of_obj (blk_stay HXX.out HBY.out) (j := 1) (v := .int .i64 (v : Int)) rfl
                go_wp2_with fail
                refine (HDM.out v u Wy (HON.out _ (Below.on HB3.out (Below.on HBX.out HBY.out)))).mono ?_
                rintro e Wz ⟨rfl, bbz⟩
                rw [HA2.out]
                have HBZ := Hid.mk' (Below.on HBY.out bbz)
                clear bbz z0 z1 z2 z3 z4 e0 e1
                go_wp2_with fail
                go_roundw
                case rel => exact ⟨i + 1, by go_num, by omega, Below.on HBX.out HBZ.out⟩
                case measure => simp [intOf]; omega
        · have hi2i : ¬ (i : Int) < (es.length : Int) := by omega
          go_wp2_with fail
          go_ret
          exact ⟨rfl, HON.out _ (Below.on HB3.out HBW.out)⟩
      · have hi1i : ¬ (i : Int) < 20 := by omega
        go_wp2_with fail
        go_ret
        exact ⟨rfl, HON.out _ (Below.on HB3.out HBW.out)⟩
  · go_wp2_with fail
    go_loopw [9] (fun t9 wr => ∃ i : Nat, t9 = .int .i64 (i : Int) ∧ i ≤ 20 ∧ Below W3.heap.size W3 wr) (fun t9 _ => 20 - (intOf t9).toNat)
    case atStart => exact ⟨0, rfl, by omega, Below.refl _ _⟩
    case round =>
      obtain ⟨i, rfl, hi20, hbw⟩ := hrel
      have HBW := Hid.mk' hbw
      clear hbw
      by_cases hi1 : i < 20
      · have hi1i : (i : Int) < 20 := by omega
        by_cases hi2 : i < es.length
        · have hi2i : (i : Int) < (es.length : Int) := by omega
          obtain ⟨j, hj⟩ : ∃ j, j = (k + i) % es.length := ⟨_, rfl⟩
          have hjl : j < es.length := by rw [hj]; exact Nat.mod_lt _ hep
          have hjj : ((k : Int) + (i : Int)).tmod (es.length : Int) = (j : Int) := by
            rw [Int.tmod_eq_emod_of_nonneg (by omega), hj, ← Int.natCast_add]
            rfl
          have hjli : (j : Int) < (es.length : Int) := by omega
          obtain ⟨⟨u, v⟩, huv⟩ : ∃ x, es[j]? = some x := ⟨_, List.getElem?_eq_getElem hjl⟩
          obtain ⟨b, rfl, c0, c1⟩ := HED3.out wr HBW.out j u v huv
          obtain ⟨hru, hnx, hul, hvl, hl0, hl1, hl2⟩ := HEM.out j u v huv
          have HBX := Hid.mk' (Below.one HBW.out (.cells #[.int .i64 (u : Int), .int .i64 (v : Int)] 44))
          have HXX := Hid.mk' (heap_alloc_new wr (.cells #[.int .i64 (u : Int), .int .i64 (v : Int)] 44))
          have HIDM : Hid (v ≠ 0 → ∃ r : Nat, ts[v]? = some (r : Int) ∧ r < ts.length ∧ domb fl (r : Int) (u : Int) = true) := fun hv0 => by
            rcases HIT.out with ⟨_, e⟩ | ⟨_, _, _, h⟩
            · rw [e] at hvl; simp at hvl
            · rcases h v (by omega) with ⟨_, h⟩ | ⟨r, h1, h2⟩
              · exact absurd ⟨.step hru hnx, hv0⟩ h
              · refine ⟨r, h1, by have := h2.1.left.lt hl0; omega, domb_true.2 ⟨hl0, hl1, by omega, by omega, ?_⟩⟩
                simp only [Int.toNat_natCast]
                exact h2.1.edge hru hnx h2.2.1
          have hvli : (v : Int) < (ts.length : Int) := by omega
          clear hj huv hru hnx hl0 hl1 hl2 HED3 HEM
          go_upto_region 17 with fail
          generalize wr.alloc (.cells #[.int .i64 (u : Int), .int .i64 (v : Int)] 44) = wr1 at *
          generalize wr.heap.size = X at *
          have e0 := cell_of_obj HXX.out (j := 0) (v := .int .i64 (u : Int)) rfl
          have e1 := cell_of_obj HXX.out (j := 1) (v := .int .i64 (v : Int)) rfl
          clear c0 c1
          by_cases hv0 : v = 0
          · have hq4 : ((v : Int) != 0) = false := bne_no (by omega)
            clear hv0
            go_quiet (fail)
            clear e0 e1
            have HBQ : Hid (Below wr1.heap.size wr1 (wr1.drewN nq)) := Below.drewN (Below.refl _ wr1) nq
            generalize wr1.drewN nq = Wq at *
            obtain ⟨z0, z1, z2, z3, z4⟩ := HZ.out Wq (Below.on HB3.out (Below.on HBX.out HBQ.out))
            have e0 := cell_of_obj (blk_stay HXX.out HBQ.out) (j := 0) (v := .int .i64 (u : Int)) rfl
            have e1 := cell_of_obj (blk_stay HXX.out HBQ.out) (j := 1) (v := .int .i64 (v : Int)) rfl
            by_cases huv : u = v
            · have hq3 : ((u : Int) != (v : Int)) = false := bne_no (by omega)
              clear huv
              go_wp2_with fail
              go_roundw
              case rel => exact ⟨i + 1, by go_num, by omega, Below.on HBX.out HBQ.out⟩
              case measure => simp [intOf]; omega
            · have hq3 : ((u : Int) != (v : Int)) = true := bne_of (by omega)
              have HAN : Hid (domb fl (u : Int) (v : Int) = true → domb fl (v : Int) (u : Int) = false) := fun h1 => domb_false fun h2 => huv (by
                have d1 := (domb_true.1 h1).2.2.2.2
                have d2 := h2.2.2.2.2
                simp only [Int.toNat_natCast] at d1 d2
                exact d1.anti d2)
              clear huv
              go_wp2_with fail
              refine (HDM.out u v Wq (HON.out _ (Below.on HB3.out (Below.on HBX.out HBQ.out)))).mono ?_
              rintro e Wy ⟨rfl, bby⟩
              have HBY := Hid.mk' (Below.on HBQ.out bby)
              clear bby z0 z1 z2 z3 z4 e0 e1
              obtain ⟨D, hD⟩ : ∃ D, domb fl (u : Int) (v : Int) = D := ⟨_, rfl⟩
              rw [hD] at HAN ⊢
              clear hD
              cases D
              · go_wp2_with fail
                go_roundw
                case rel => exact ⟨i + 1, by go_num, by omega, Below.on HBX.out HBY.out⟩
                case measure => simp [intOf]; omega
              · have HA2 := Hid.mk' (HAN.out rfl)
                obtain ⟨z0, z1, z2, z3, z4⟩ := HZ.out Wy (Below.on HB3.out (Below.on HBX.out HBY.out))
                have e0 := cell_of_obj (blk_stay HXX.out HBY.out) (j := 0) (v := .int .i64 (u : Int)) rfl
                have e1 := cell_of_obj (blk_stay HXX.out HBY.out) (j := 1) (v := .int .i64 (v : Int)) rfl
                go_wp2_with fail
                refine (HDM.out v u Wy (HON.out _ (Below.on HB3.out (Below.on HBX.out HBY.out)))).mono ?_
                rintro e Wz ⟨rfl, bbz⟩
                rw [HA2.out]
                have HBZ := Hid.mk' (Below.on HBY.out bbz)
                clear bbz z0 z1 z2 z3 z4 e0 e1
                go_wp2_with fail
                go_roundw
                case rel => exact ⟨i + 1, by go_num, by omega, Below.on HBX.out HBZ.out⟩
                case measure => simp [intOf]; omega
          · have hq4 : ((v : Int) != 0) = true := bne_of (by omega)
            obtain ⟨r, hr1, hr2, hr3⟩ := HIDM.out hv0
            have d1 := HT3.out wr1 HBX.out v r hvl hr1
            have hrn : ¬ (r : Int) < 0 := by omega
            have HR3 := Hid.mk' hr3
            obtain ⟨z0, z1, z2, z3, z4⟩ := HZ.out wr1 (Below.on HB3.out HBX.out)
            clear hv0 hr1 hr3 HIDM
            have p0 : ∀ w', Below wr1.heap.size wr1 w' → w'.cell? _ = some _ := fun w' h => cell_kept_below z0 h
            have p1 : ∀ w', Below wr1.heap.size wr1 w' → w'.cell? _ = some _ := fun w' h => cell_kept_below z1 h
            have p2 : ∀ w', Below wr1.heap.size wr1 w' → w'.cell? _ = some _ := fun w' h => cell_kept_below z2 h
            have p3 : ∀ w', Below wr1.heap.size wr1 w' → w'.cell? _ = some _ := fun w' h => cell_kept_below z3 h
            have p4 : ∀ w', Below wr1.heap.size wr1 w' → w'.cell? _ = some _ := fun w' h => cell_kept_below z4 h
            have pd : ∀ w', Below wr1.heap.size wr1 w' → w'.cell? _ = some _ := fun w' h => cell_kept_below d1 h
            have pe : ∀ w', Below wr1.heap.size wr1 w' → w'.cell? _ = some _ := fun w' h => cell_kept_below e0 h
            have pf : ∀ w', Below wr1.heap.size wr1 w' → w'.cell? _ = some _ := fun w' h => cell_kept_below e1 h
            clear z0 z1 z2 z3 z4 d1 e0 e1
            go_region_held3 (fun w' => Below wr1.heap.size wr1 w') (first | exact Below.drew (Below.refl _ _) | exact Below.on (by assumption) (by assumption) | exact Below.one (by assumption) _)
              (first
                | (go_at_call 8; refine (HDM.out r u _ (HON.out _ (Below.on HB3.out (Below.on HBX.out (by assumption))))).mono ?_; rintro e w' ⟨rfl, hb⟩; rw [HR3.out]))
            have hB : Below wr1.heap.size wr1 w' := by assumption
            have HBQ := Hid.mk' hB
            clear p0 p1 p2 p3 p4 pd pe pf hB
            obtain ⟨z0, z1, z2, z3, z4⟩ := HZ.out w' (Below.on HB3.out (Below.on HBX.out HBQ.out))
            have e0 := cell_of_obj (blk_stay HXX.out HBQ.out) (j := 0) (v := .int .i64 (u : Int)) rfl
            have e1 := cell_of_obj (blk_stay HXX.out HBQ.out) (j := 1) (v := .int .i64 (v : Int)) rfl
            by_cases huv : u = v
            · have hq3 : ((u : Int) != (v : Int)) = false := bne_no (by omega)
              clear huv
              go_wp2_with fail
              go_roundw
              case rel => exact ⟨i + 1, by go_num, by omega, Below.on HBX.out HBQ.out⟩
              case measure => simp [intOf]; omega
            · have hq3 : ((u : Int) != (v : Int)) = true := bne_of (by omega)
              have HAN : Hid (domb fl (u : Int) (v : Int) = true → domb fl (v : Int) (u : Int) = false) := fun h1 => domb_false fun h2 => huv (by
                have d1 := (domb_true.1 h1).2.2.2.2
                have d2 := h2.2.2.2.2
                simp only [Int.toNat_natCast] at d1 d2
                exact d1.anti d2)
              clear huv
              go_wp2_with fail
              refine (HDM.out u v w' (HON.out _ (Below.on HB3.out (Below.on HBX.out HBQ.out)))).mono ?_
              rintro e Wy ⟨rfl, bby⟩
              have HBY := Hid.mk' (Below.on HBQ.out bby)
              clear bby z0 z1 z2 z3 z4 e0 e1
              obtain ⟨D, hD⟩ : ∃ D, domb fl (u : Int) (v : Int) = D := ⟨_, rfl⟩
              rw [hD] at HAN ⊢
              clear hD
              cases D
              · go_wp2_with fail
                go_roundw
                case rel => exact ⟨i + 1, by go_num, by omega, Below.on HBX.out HBY.out⟩
                case measure => simp [intOf]; omega
              · have HA2 := Hid.mk' (HAN.out rfl)
                obtain ⟨z0, z1, z2, z3, z4⟩ := HZ.out Wy (Below.on HB3.out (Below.on HBX.out HBY.out))
                have e0 := cell_of_obj (blk_stay HXX.out HBY.out) (j := 0) (v := .int .i64 (u : Int)) rfl
                have e1 := cell_of_obj (blk_stay HXX.out HBY.out) (j := 1) (v := .int .i64 (v : Int)) rfl
                go_wp2_with fail
                refine (HDM.out v u Wy (HON.out _ (Below.on HB3.out (Below.on HBX.out HBY.out)))).mono ?_
                rintro e Wz ⟨rfl, bbz⟩
                rw [HA2.out]
                have HBZ := Hid.mk' (Below.on HBY.out bbz)
                clear bbz z0 z1 z2 z3 z4 e0 e1
                go_wp2_with fail
                go_roundw
                case rel => exact ⟨i + 1, by go_num, by omega, Below.on HBX.out HBZ.out⟩
                case measure => simp [intOf]; omega
        · have hi2i : ¬ (i : Int) < (es.length : Int) := by omega
          go_wp2_with fail
          go_ret
          exact ⟨rfl, HON.out _ (Below.on HB3.out HBW.out)⟩
      · have hi1i : ¬ (i : Int) < 20 := by omega
        go_wp2_with fail
        go_ret
        exact ⟨rfl, HON.out _ (Below.on HB3.out HBW.out)⟩
end Go.Proofs.YtlnjhnbiljkbmaaDoor
