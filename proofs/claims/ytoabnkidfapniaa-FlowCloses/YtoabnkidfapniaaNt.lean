/- Where blocks begin: the document's own Blocks. -/
import Derived.Test.YtoabnkidfapniaaNr
namespace Go.Proofs.Ytoabnkidfapniaa
open Go.RowKit Go.Sort

/-- What lies where. -/
structure RB (w w1 : World) (vc ve : Value) (rs : List Bool) (es : List (Nat × Nat)) (n gm gf : Nat) (ma fr : List Nat) (W : World) : Prop where
  r : Ob (w.heap.size + 1) rs vc W
  e : Oe (w.heap.size + 1) es ve W
  m : On (w.heap.size + 1) ma (.slice (some ⟨gm, 0, none⟩) n n) W
  f : On (w.heap.size + 1) fr (.slice (some ⟨gf, 0, none⟩) n n) W
  ne : gm ≠ gf
  b : Below (w.heap.size + 1) w1 W
section
variable {w w1 : World} {vc ve : Value} {rs : List Bool} {es : List (Nat × Nat)} {n gm gf : Nat} {ma fr : List Nat} {W W' : World}
theorem RB.stay (h : RB w w1 vc ve rs es n gm gf ma fr W) (hs : w.heap.size + 1 ≤ W.heap.size) (hb : Below W.heap.size W W') : RB w w1 vc ve rs es n gm gf ma fr W' :=
  ⟨own_stay h.r hb, own_stay h.e hb, own_stay h.m hb, own_stay h.f hb, h.ne, h.b.trans (hb.mono hs)⟩
theorem RB.putM (h : RB w w1 vc ve rs es n gm gf ma fr W) (u k : Nat) : RB w w1 vc ve rs es n gm gf (ma.set u k) fr (W.setCell ⟨gm, u, none⟩ (.int .i64 (k : Int))) := by
  obtain ⟨cur, hc, hN⟩ := own_blk h.m
  exact ⟨own_set h.r hc (by decide) _ _, own_set h.e hc (by decide) _ _, on_put h.m u k, own_off h.f (fun e => h.ne (by simpa [Value.ownBlock] using e.symm)) _ _, h.ne, h.b.setCell (by simp only; omega) _⟩
theorem RB.putF (h : RB w w1 vc ve rs es n gm gf ma fr W) (u k : Nat) : RB w w1 vc ve rs es n gm gf ma (fr.set u k) (W.setCell ⟨gf, u, none⟩ (.int .i64 (k : Int))) := by
  obtain ⟨cur, hc, hN⟩ := own_blk h.f
  exact ⟨own_set h.r hc (by decide) _ _, own_set h.e hc (by decide) _ _, own_off h.m (fun e => h.ne (by simpa [Value.ownBlock] using e)) _ _, on_put h.f u k, h.ne, h.b.setCell (by simp only; omega) _⟩
end
def rbl (l : List Is) (rs : List Bool) (k : Nat) : List Nat := (List.range k).filter fun v => (rs[v]? == some true) && !rin l rs v
theorem rbl_len (l : List Is) (rs : List Bool) (k : Nat) : (rbl l rs k).length ≤ k := by unfold rbl; exact Nat.le_trans (List.length_filter_le _ _) (by simp)
theorem rbl_yes {l : List Is} {rs : List Bool} {k : Nat} (h : rs[k]? = some true) (hr : rin l rs k = false) : rbl l rs (k + 1) = rbl l rs k ++ [k] := by unfold rbl; rw [List.range_succ, List.filter_append]; simp [h, hr]
theorem rbl_no {l : List Is} {rs : List Bool} {k : Nat} (h : rs[k]? = some false) : rbl l rs (k + 1) = rbl l rs k := by unfold rbl; rw [List.range_succ, List.filter_append]; simp [h]
theorem rbl_in {l : List Is} {rs : List Bool} {k : Nat} (hr : rin l rs k = true) : rbl l rs (k + 1) = rbl l rs k := by unfold rbl; rw [List.range_succ, List.filter_append]; simp [hr]
set_option maxRecDepth 100000 in
set_option maxHeartbeats 4000000 in
theorem rblocks_any (f : Fn) (w : World) (hi : Iss w f.ca f.code) : Calls Try.prog 20 #[f.val] w (BlP f.code w) := by
  have HN : Hid (∀ (k : Nat) w', Below w.heap.size w w' → Calls Try.prog 10 #[f.val, .int .i64 (k : Int)] w' (NxP (nxt f.code k) w')) := fun k w' hb => by
    have := rnext_any f k w' (hi.stay hb)
    rwa [nxZ_nat] at this
  have HR : Hid (∀ w', Below w.heap.size w w' → Calls Try.prog 15 #[f.val] w' (ReP f.code w')) := fun w' hb => rreach_any f w' (hi.stay hb)
  have HE : Hid (∀ w', Below w.heap.size w w' → Calls Try.prog 17 #[f.val] w' (REP f.code w')) := fun w' hb => redges_any f w' (hi.stay hb)
  obtain ⟨fn, fpa, fpc, fps, frg, fwd, fca, fcc, fl⟩ := f
  unfold Fn.val at *
  simp only at hi HN HR HE ⊢
  have HB := Hid.mk' (Below.one (Below.refl _ w) (.cells #[.string fn, .slice fpa fps.length fpc, .int .i64 frg, .int .i64 fwd, .slice fca fl.length fcc] 25))
  have HX := Hid.mk' (heap_alloc_new w (.cells #[.string fn, .slice fpa fps.length fpc, .int .i64 frg, .int .i64 fwd, .slice fca fl.length fcc] 25))
  have HW1 : Hid (∀ W : World, Below (w.heap.size + 1) (w.alloc (.cells #[.string fn, .slice fpa fps.length fpc, .int .i64 frg, .int .i64 fwd, .slice fca fl.length fcc] 25)) W → W.heap[w.heap.size]? = some (.cells #[.string fn, .slice fpa fps.length fpc, .int .i64 frg, .int .i64 fwd, .slice fca fl.length fcc] 25) ∧ Below w.heap.size w W ∧ w.heap.size + 1 ≤ W.heap.size) := by
    intro W hb
    have h1 := (hb.block _ (Nat.lt_succ_self _)).trans HX.out
    exact ⟨h1, HB.out.trans (hb.mono (Nat.le_succ _)), (Array.getElem?_eq_some_iff.1 h1).1⟩
  clear hi
  go_enter Try.func20, Try.ntmps20
  go_wp2_with fail
  refine (HR.out _ HB.out).mono ?_
  rintro e w2 ⟨vc, rs, rfl, hir, ho, bb2⟩
  obtain ⟨ra, rc, rfl⟩ := gown_form ho
  rw [World.size_alloc] at ho bb2
  have HB2 := Hid.mk' bb2
  obtain ⟨hx, hbw, hsz⟩ := HW1.out _ bb2
  have HBW := Hid.mk' hbw
  have z0 := cell_of_obj hx (j := 0) (v := .string fn) rfl
  have z1 := cell_of_obj hx (j := 1) (v := .slice fpa fps.length fpc) rfl
  have z2 := cell_of_obj hx (j := 2) (v := .int .i64 frg) rfl
  have z3 := cell_of_obj hx (j := 3) (v := .int .i64 fwd) rfl
  have z4 := cell_of_obj hx (j := 4) (v := .slice fca fl.length fcc) rfl
  have HO := Hid.mk' ho
  have HIR := Hid.mk' hir
  have HRL := Hid.mk' hir.len
  have HS2 := Hid.mk' hsz
  clear hx hbw ho hir bb2 HR HB HX
  go_wp2_with fail
  refine (HE.out _ HBW.out).mono ?_
  rintro e w3 ⟨ve, rs', rfl, hir', hoe, bb3⟩
  obtain rfl := hir'.one HIR.out
  obtain ⟨ea, ec, rfl⟩ := gown_form hoe
  have hs3 := bb3.size
  have hrl := HRL.out
  have hmk : ∀ W, _ := fun W => run_mkN W rs'.length (by omega)
  have HRB : Hid (RB w (w.alloc (.cells #[.string fn, .slice fpa fps.length fpc, .int .i64 frg, .int .i64 fwd, .slice fca fl.length fcc] 25)) (.slice ra rs'.length rc) (.slice ea (edg fl rs').length ec) rs' (edg fl rs') rs'.length w3.heap.size (w3.heap.size + 1) (cnt Prod.snd rs'.length []) (lst rs'.length []) ((w3.alloc (.cells (mkN rs'.length) 3)).alloc (.cells (mkN rs'.length) 3))) := by
    have b4 := Below.one (Below.one (Below.refl _ w3) (.cells (mkN rs'.length) 3)) (.cells (mkN rs'.length) 3)
    have m1 := own_stay (own_mkN w3 rs'.length (by omega)) (Below.one (Below.refl _ (w3.alloc (.cells (mkN rs'.length) 3))) (.cells (mkN rs'.length) 3))
    have m2 := own_mkN (w3.alloc (.cells (mkN rs'.length) 3)) rs'.length (by omega)
    rw [World.size_alloc] at m2
    rw [cnt_nil, lst_nil0]
    exact ⟨own_stay (own_stay HO.out bb3) b4, own_stay (own_mono hoe hsz) b4, own_mono m1 (by omega), own_mono m2 (by omega), by omega, (HB2.out.trans (bb3.mono hsz)).trans (b4.mono (by omega))⟩
  have HLN : Hid ((edg fl rs').length ≤ 3000) := by
    have := edU_len fl rs' rs'.length
    show _ ≤ _
    unfold edg
    omega
  have HME : Hid (∀ x ∈ edg fl rs', x.1 < rs'.length ∧ x.2 < rs'.length) := by
    intro x hm
    obtain ⟨k1, k2⟩ := mem_edg.1 (show (x.1, x.2) ∈ edg fl rs' from hm)
    have hl := (List.getElem?_eq_some_iff.1 k1).1
    have hn := nxt_lt k2
    rcases HIR.out with ⟨_, e⟩ | ⟨_, _, e, _⟩
    · rw [e] at hl; simp at hl
    · omega
  clear z0 z1 z2 z3 z4 hir' hoe bb3 HE HBW HO HB2 HS2 hsz hs3
  go_wp2_with fail
  generalize w.alloc (.cells #[.string fn, .slice fpa fps.length fpc, .int .i64 frg, .int .i64 fwd, .slice fca fl.length fcc] 25) = w1 at *
  generalize (w3.alloc (.cells (mkN rs'.length) 3)).alloc (.cells (mkN rs'.length) 3) = W0 at *
  generalize w3.heap.size = G at *
  clear hmk
  have HRI : Hid (∀ v, rin fl rs' v = (decide (0 < v) && ((edg fl rs').countP (fun e => e.2 == v) == 1) && (lastU (edg fl rs') v + 1 == v) && ((nxt fl (v - 1)).length == 1))) := fun _ => rfl
  have HCA : Hid (∀ v, v < rs'.length → (cnt Prod.snd rs'.length (edg fl rs'))[v]? = some ((edg fl rs').countP fun e => e.2 == v)) := fun v h => cnt_at Prod.snd _ h
  have HLA : Hid (∀ v, v < rs'.length → (lst rs'.length (edg fl rs'))[v]? = some (lastU (edg fl rs') v)) := fun v h => lst_at _ h
  have HBR : Hid (blk fl rs' = rbl fl rs' rs'.length) := blk_rin fl rs'
  have HYS := Hid.mk' (fun k => rbl_yes (l := fl) (rs := rs') (k := k))
  have HNS := Hid.mk' (fun k => rbl_no (l := fl) (rs := rs') (k := k))
  have HIS := Hid.mk' (fun k => rbl_in (l := fl) (rs := rs') (k := k))
  generalize edg fl rs' = es at *
  go_loopw [7] (fun t7 wr => ∃ (i : Nat), t7 = .int .i64 (i : Int) ∧ i ≤ es.length ∧ RB w w1 (.slice ra rs'.length rc) (.slice ea es.length ec) rs' es rs'.length G (G + 1) (cnt Prod.snd rs'.length (es.take i)) (lst rs'.length (es.take i)) wr) (fun t7 _ => es.length - (intOf t7).toNat)
  case atStart => exact ⟨0, rfl, Nat.zero_le _, HRB.out⟩
  case round =>
    obtain ⟨i, rfl, hil, hrb⟩ := hrel
    have HRB1 := Hid.mk' hrb
    clear hrb HRB
    by_cases hlt : i < es.length
    · obtain ⟨x, hx⟩ : ∃ x, es[i]? = some x := ⟨_, List.getElem?_eq_getElem hlt⟩
      obtain ⟨hx1, hx2⟩ := HME.out x (List.mem_of_getElem? hx)
      have HT : Hid (es.take (i + 1) = es.take i ++ [x]) := by
        obtain ⟨h1, h2⟩ := List.getElem?_eq_some_iff.1 hx
        show _ = _
        rw [List.take_succ_eq_append_getElem h1, h2]
      have hle : (es.take i).countP (fun e => e.2 == x.2) ≤ i := Nat.le_trans List.countP_le_length (by simp; omega)
      have hln := HLN.out
      obtain ⟨be, oe, hea, d0, d1⟩ := es_at (own_row HRB1.out.e (fun _ => rfl) (by decide)) hx
      subst hea
      obtain ⟨g1, e1, d2, k1, k2⟩ := on_at HRB1.out.m (cnt_at Prod.snd (es.take i) hx2)
      cases e1
      clear k1 k2
      have HS1 := Hid.mk' (cnt_snoc Prod.snd (n := rs'.length) (es.take i) (x := x))
      have HS2 := Hid.mk' (lst_snoc (n := rs'.length) (es.take i) x)
      have f2 := World.ownsRow.frozenAt (by have := HRB1.out.m; unfold On at this; rw [cnt_len] at this; exact this) x.2
      have c2 : (es.take i).countP (fun e => e.2 == x.2) ≤ 3000 := by omega
      generalize (es.take i).countP (fun e => e.2 == x.2) = ci at *
      have P1 := HRB1.out.putM x.2 (ci + 1)
      rw [Int.natCast_add, Int.natCast_one] at P1
      obtain ⟨b4, o4, hea, d3, d4⟩ := es_at (own_row P1.e (fun _ => rfl) (by decide)) hx
      cases hea
      obtain ⟨g3, e3, d5, k1, k2⟩ := on_at P1.f (lst_at (es.take i) hx2)
      cases e3
      clear k1 k2
      have f5 := World.ownsRow.frozenAt (by have := P1.f; unfold On at this; rw [lst_len] at this; exact this) x.2
      have HP1 := Hid.mk' P1
      obtain ⟨x1, x2⟩ := x
      simp only at d0 d1 d2 d3 d4 d5 f2 f5 HP1 hx1 hx2 HS1 HS2 HT ⊢
      have hx1i : (x1 : Int) < (rs'.length : Int) := by omega
      have hx2i : (x2 : Int) < (rs'.length : Int) := by omega
      have hlti : (i : Int) < (es.length : Int) := by omega
      clear P1 hx hle
      go_upto_region 9 with fail
      generalize wr.setCell ⟨G, x2, none⟩ (.int .i64 ((ci : Int) + 1)) = W1 at *
      clear d0 d1 d2 f2
      generalize lastU (es.take i) x2 = lu at *
      have HP2 := Hid.mk' (HP1.out.stay ((HW1.out _ HP1.out.b).2.2) (Below.drew (Below.refl _ W1)))
      have HP3 := Hid.mk' (HP2.out.putF x2 x1)
      go_region
      all_goals
        go_wp2_with fail
        go_roundw
        case rel => exact ⟨i + 1, by go_num, hlt, by rw [HT.out, HS1.out, HS2.out]; exact HP3.out⟩
        case measure => simp [intOf]; omega
    · have hie : i = es.length := by omega
      have HRB2 : Hid (RB w w1 (.slice ra rs'.length rc) (.slice ea es.length ec) rs' es rs'.length G (G + 1) (cnt Prod.snd rs'.length es) (lst rs'.length es) wr) := by
        have := HRB1.out
        rw [hie, List.take_length] at this
        exact this
      clear HRB1 hie
      have HRN0 : Hid (RB w w1 (.slice ra rs'.length rc) (.slice ea es.length ec) rs' es rs'.length G (G + 1) (cnt Prod.snd rs'.length es) (lst rs'.length es) (wr.alloc (.cells #[] 3))) := HRB2.out.stay (HW1.out _ HRB2.out.b).2.2 (Below.one (Below.refl _ wr) _)
      have HO0 : Hid (On wr.heap.size (rbl fl rs' 0) (.slice (some ⟨wr.heap.size, 0, none⟩) 0 0) (wr.alloc (.cells #[] 3))) := row_new wr 3 1
      have HB0 : Hid (Below wr.heap.size wr (wr.alloc (.cells #[] 3))) := Below.one (Below.refl _ wr) _
      obtain ⟨Wo, hWo⟩ : ∃ Wo, Wo = wr := ⟨_, rfl⟩
      subst hWo
      go_wp2_with fail
      generalize Wo.alloc (.cells #[] 3) = WS at *
      go_loopw [8, 9] (fun t8 t9 wr => ∃ (v : Nat) (vo : Value), t8 = vo ∧ t9 = .int .i64 (v : Int) ∧ v ≤ rs'.length ∧ On Wo.heap.size (rbl fl rs' v) vo wr ∧ Below Wo.heap.size Wo wr) (fun _ t9 _ => rs'.length - (intOf t9).toNat)
      case atStart => exact ⟨0, _, rfl, rfl, Nat.zero_le _, HO0.out, HB0.out⟩
      case round =>
        obtain ⟨v, vo, rfl, rfl, hv, hon, hbr⟩ := hrel
        obtain ⟨av, cv, rfl⟩ := gown_form hon
        have HON := Hid.mk' hon
        have HBR2 := Hid.mk' hbr
        have HRB3 := Hid.mk' (HRB2.out.stay (HW1.out _ HRB2.out.b).2.2 hbr)
        have hbl := rbl_len fl rs' v
        have hrl := HRL.out
        clear hon hbr HO0 HB0 HRN0
        by_cases hvl : v < rs'.length
        · obtain ⟨bv, hbv⟩ : ∃ b, rs'[v]? = some b := ⟨_, List.getElem?_eq_getElem hvl⟩
          obtain ⟨gc, rfl, d0, k1, k2⟩ := ob_at HRB3.out.r hbv
          clear k1 k2
          have hvli : (v : Int) < (rs'.length : Int) := by omega
          have HBV := Hid.mk' hbv
          clear hbv
          cases bv
          · have HNO := Hid.mk' (HNS.out v HBV.out)
            go_wp2_with fail
            go_roundw
            case rel => exact ⟨v + 1, _, rfl, by go_num, hvl, by rw [HNO.out]; exact HON.out, HBR2.out⟩
            case measure => simp [intOf]; omega
          have HRV := Hid.mk' (HRI.out v)
          obtain ⟨g1, e1, d1, k1, k2⟩ := on_at HRB3.out.m (HCA.out v hvl)
          cases e1
          clear k1 k2
          obtain ⟨g2, e2, d2, k1, k2⟩ := on_at HRB3.out.f (HLA.out v hvl)
          cases e2
          clear k1 k2
          generalize es.countP (fun e => e.2 == v) = cm at *
          generalize lastU es v = lu at *
          by_cases q0 : v = 0
          · have q0i : ¬ (0 : Int) < (v : Int) := by omega
            have HRN : Hid (rin fl rs' v = false) := (by rw [HRV.out, q0]; rfl : _ = _)
            clear q0
            have HY := Hid.mk' (HYS.out v HBV.out HRN.out)
            have HAP := Hid.mk' (on_app HON.out HBR2.out.size (by omega) v 27)
            go_wp2_with (at_builtin; refine wpl_app rfl _ _ 27 27 _ _ rfl rfl rfl HAP.out ?_; rintro v3 W7 ⟨on3, gr3⟩; obtain ⟨a3, c3, rfl⟩ := gown_form on3)
            go_roundw
            case rel => exact ⟨v + 1, _, rfl, by go_num, hvl, by rw [HY.out]; rw [List.length_append] at on3; exact on3, HBR2.out.trans (own_keeps HON.out HBR2.out.size gr3)⟩
            case measure => simp [intOf]; omega
          have q0i : (0 : Int) < (v : Int) := by omega
          by_cases q1 : cm = 1
          · have q1i : ((cm : Int) == 1) = true := by rw [beq_iff_eq]; omega
            by_cases q2 : lu + 1 = v
            · have q2i : ((lu : Int) == (v : Int) - 1) = true := by rw [beq_iff_eq]; omega
              obtain ⟨hx, hbw, hsz⟩ := HW1.out _ HRB3.out.b
              have HBW := Hid.mk' hbw
              have z0 := cell_of_obj hx (j := 0) (v := .string fn) rfl
              have z1 := cell_of_obj hx (j := 1) (v := .slice fpa fps.length fpc) rfl
              have z2 := cell_of_obj hx (j := 2) (v := .int .i64 frg) rfl
              have z3 := cell_of_obj hx (j := 3) (v := .int .i64 fwd) rfl
              have z4 := cell_of_obj hx (j := 4) (v := .slice fca fl.length fcc) rfl
              have HNX := Hid.mk' (HN.out (v - 1) _ HBW.out)
              rw [show ((v - 1 : Nat) : Int) = (v : Int) - 1 by omega] at HNX
              have HQ : Hid (rin fl rs' v = ((nxt fl (v - 1)).length == 1)) := by
                show _ = _
                rw [HRV.out, decide_eq_true (by omega : 0 < v), q1, q2]
                simp
              have hnl := nxt_len fl (v - 1)
              generalize nxt fl (v - 1) = nx at *
              clear hx hbw hsz q0 q1 q2 HRV
              go_wp2_with fail
              refine HNX.out.mono ?_
              rintro e W2 ⟨v2, rfl, on2, bb2⟩
              obtain ⟨a2, c2, rfl⟩ := gown_form on2
              replace HON := Hid.mk' (own_stay HON.out bb2)
              replace HBR2 := Hid.mk' (Below.on HBR2.out bb2)
              clear z0 z1 z2 z3 z4 on2 bb2 d0 d1 d2
              by_cases q3 : nx.length = 1
              · have q3i : ((nx.length : Int) == 1) = true := by rw [beq_iff_eq]; omega
                have HNO := Hid.mk' (HIS.out v (by rw [HQ.out, q3]; rfl))
                clear q3
                go_wp2_with fail
                go_roundw
                case rel => exact ⟨v + 1, _, rfl, by go_num, hvl, by rw [HNO.out]; exact HON.out, HBR2.out⟩
                case measure => simp [intOf]; omega
              · have q3i : ((nx.length : Int) == 1) = false := beq_no (by omega)
                have HRN : Hid (rin fl rs' v = false) := (by rw [HQ.out]; simp [q3] : _ = _)
                clear q3
                have HY := Hid.mk' (HYS.out v HBV.out HRN.out)
                have HAP := Hid.mk' (on_app HON.out HBR2.out.size (by omega) v 27)
                go_wp2_with (at_builtin; refine wpl_app rfl _ _ 27 27 _ _ rfl rfl rfl HAP.out ?_; rintro v3 W7 ⟨on3, gr3⟩; obtain ⟨a3, c3, rfl⟩ := gown_form on3)
                go_roundw
                case rel => exact ⟨v + 1, _, rfl, by go_num, hvl, by rw [HY.out]; rw [List.length_append] at on3; exact on3, HBR2.out.trans (own_keeps HON.out HBR2.out.size gr3)⟩
                case measure => simp [intOf]; omega
            · have q2i : ((lu : Int) == (v : Int) - 1) = false := beq_no (by omega)
              have HRN : Hid (rin fl rs' v = false) := (by rw [HRV.out]; simp [q2] : _ = _)
              clear q0 q1 q2
              have HY := Hid.mk' (HYS.out v HBV.out HRN.out)
              have HAP := Hid.mk' (on_app HON.out HBR2.out.size (by omega) v 27)
              go_wp2_with (at_builtin; refine wpl_app rfl _ _ 27 27 _ _ rfl rfl rfl HAP.out ?_; rintro v3 W7 ⟨on3, gr3⟩; obtain ⟨a3, c3, rfl⟩ := gown_form on3)
              go_roundw
              case rel => exact ⟨v + 1, _, rfl, by go_num, hvl, by rw [HY.out]; rw [List.length_append] at on3; exact on3, HBR2.out.trans (own_keeps HON.out HBR2.out.size gr3)⟩
              case measure => simp [intOf]; omega
          · have q1i : ((cm : Int) == 1) = false := beq_no (by omega)
            have HRN : Hid (rin fl rs' v = false) := (by rw [HRV.out]; simp [q1] : _ = _)
            clear q0 q1
            have HY := Hid.mk' (HYS.out v HBV.out HRN.out)
            have HAP := Hid.mk' (on_app HON.out HBR2.out.size (by omega) v 27)
            go_wp2_with (at_builtin; refine wpl_app rfl _ _ 27 27 _ _ rfl rfl rfl HAP.out ?_; rintro v3 W7 ⟨on3, gr3⟩; obtain ⟨a3, c3, rfl⟩ := gown_form on3)
            go_roundw
            case rel => exact ⟨v + 1, _, rfl, by go_num, hvl, by rw [HY.out]; rw [List.length_append] at on3; exact on3, HBR2.out.trans (own_keeps HON.out HBR2.out.size gr3)⟩
            case measure => simp [intOf]; omega
        · have hve : v = rs'.length := by omega
          go_wp2_with fail
          go_ret
          refine ⟨_, rs', rfl, HIR.out, ?_, (HW1.out _ HRB3.out.b).2.1⟩
          rw [HBR.out, ← hve]
          exact own_mono HON.out (by have := (HW1.out _ HRB2.out.b).2.2; omega)
end Go.Proofs.Ytoabnkidfapniaa
