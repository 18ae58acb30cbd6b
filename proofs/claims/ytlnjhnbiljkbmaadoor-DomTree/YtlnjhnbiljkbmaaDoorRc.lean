/- The document's own Tree, walked. -/
import Derived.Test.YtlnjhnbiljkbmaaDoorRb
namespace Go.Proofs.YtlnjhnbiljkbmaaDoor
open Go.RowKit Go.Shelf

theorem ob_cell {N n c : Nat} {l : List Bool} {g : Nat} {W : World} (h : Ob N l (.slice (some ⟨g, 0, none⟩) n c) W) {j : Nat} {k : Bool} (hj : l[j]? = some k) : W.cell? ⟨g, j, none⟩ = some (.bool k) := by
  obtain ⟨a, k', e⟩ := gown_form h
  injection e with e1 e2 e3
  subst e2
  have := h.cells (g := g) rfl j (.bool k) (by rw [List.getElem?_map, hj]; rfl)
  rwa [Addr.add_lit, Nat.zero_add] at this
theorem on_cell {N n c : Nat} {l : List Nat} {g : Nat} {W : World} (h : On N l (.slice (some ⟨g, 0, none⟩) n c) W) {j k : Nat} (hj : l[j]? = some k) : W.cell? ⟨g, j, none⟩ = some (.int .i64 (k : Int)) := by
  obtain ⟨a, k', e⟩ := gown_form h
  injection e with e1 e2 e3
  subst e2
  have := h.cells (g := g) rfl j (.int .i64 (k : Int)) (by rw [List.getElem?_map, hj]; rfl)
  rwa [Addr.add_lit, Nat.zero_add] at this
theorem row_cell {l : List Is} {N n a b : Nat} {v : Value} {W : World} (h : Ob N (rowL l n a) v W) (hb : b < n) : ∃ g c, v = .slice (some ⟨g, 0, none⟩) n c ∧ W.cell? ⟨g, b, none⟩ = some (.bool (domb l (a : Int) (b : Int))) := by
  have h1 := h
  unfold Ob at h1
  rw [rowL_len] at h1
  rcases h1.2 with ⟨_, e⟩ | ⟨g, cap, cur, e, _⟩
  · omega
  · rw [e] at h
    exact ⟨g, cap, e, ob_cell h (rowL_at hb)⟩
theorem q_cell {N n c a : Nat} {T : TypeId} {qa : Option Addr} {vals : List Value} {W : World} (h : W.ownsRow N T 1 (.slice qa n c) n vals) (ha : a < n) : ∃ g, qa = some ⟨g, 0, none⟩ ∧ W.cell? ⟨g, a, none⟩ = some (vals.getD a undef) := by
  rcases h.2 with ⟨_, e⟩ | ⟨g, cap, cur, e, _⟩
  · omega
  · cases e
    have := h.cells (g := g) rfl a (vals.getD a undef) (vs_at (by have := h.1; omega))
    rw [Addr.add_lit, Nat.zero_add] at this
    exact ⟨g, rfl, this⟩
def TrQ (l : List Is) (w : World) (e : Ending) (w' : World) : Prop := ∃ g ts, e = .returned (.slice (some ⟨g, 0, none⟩) ts.length ts.length) ∧ IsT l ts ∧ Oi w.heap.size ts (.slice (some ⟨g, 0, none⟩) ts.length ts.length) w' ∧ Below w.heap.size w w'
set_option maxRecDepth 100000 in
set_option maxHeartbeats 4000000 in
theorem rtree_any (f : Fn) (w : World) (hi : Iss w f.ca f.code) : Calls Tryd.prog 13 #[f.val] w (TrQ f.code w) := by
  have HRE : Hid (∀ W, Below w.heap.size w W → Calls Tryd.prog 15 #[f.val] W (ReP f.code W)) := fun W hb => rreach_any f W (hi.stay hb)
  have HWO : Hid (∀ (g : Int) W, Below w.heap.size w W → Calls Tryd.prog 16 #[f.val, .int .i64 g] W (WoP f.code g W)) := fun g W hb => without_any f g W (hi.stay hb)
  clear hi
  obtain ⟨fn, fpa, fpc, fps, frg, fwd, fca, fcc, fl⟩ := f
  unfold Fn.val at *
  simp only at HRE HWO ⊢
  have HB := Hid.mk' (Below.one (Below.refl _ w) (.cells #[.string fn, .slice fpa fps.length fpc, .int .i64 frg, .int .i64 fwd, .slice fca fl.length fcc] 25))
  have HX := Hid.mk' (heap_alloc_new w (.cells #[.string fn, .slice fpa fps.length fpc, .int .i64 frg, .int .i64 fwd, .slice fca fl.length fcc] 25))
  go_enter Tryd.func13, Tryd.ntmps13
  go_wp2_with fail
  refine (HRE.out _ HB.out).mono ?_
  rintro e W1 ⟨v1, rs, rfl, hir, ho, bb1⟩
  obtain ⟨ra, rc, rfl⟩ := gown_form ho
  have HB1 := Hid.mk' (Below.on HB.out bb1)
  have HX1 := Hid.mk' (blk_stay HX.out bb1)
  have HIR := Hid.mk' hir
  have HO1 := Hid.mk' ho
  have hrl := hir.len
  have hmk : ∀ W, _ := fun W => run_mkN W rs.length (by omega)
  have hmb : ∀ W, _ := fun W => run_mkB W rs.length (by omega)
  have HZ : Hid (∀ W, Below W1.heap.size W1 W → W.cell? ⟨w.heap.size, 0, none⟩ = some (.string fn) ∧ W.cell? ⟨w.heap.size, 1, none⟩ = some (.slice fpa fps.length fpc) ∧ W.cell? ⟨w.heap.size, 2, none⟩ = some (.int .i64 frg) ∧ W.cell? ⟨w.heap.size, 3, none⟩ = some (.int .i64 fwd) ∧ W.cell? ⟨w.heap.size, 4, none⟩ = some (.slice fca fl.length fcc)) := fun W hb => by
    have h := blk_stay HX1.out hb
    exact ⟨cell_of_obj h rfl, cell_of_obj h rfl, cell_of_obj h rfl, cell_of_obj h rfl, cell_of_obj h rfl⟩
  have HON : Hid (∀ W, Below W1.heap.size W1 W → Below w.heap.size w W) := fun W hb => Below.on HB1.out hb
  have HCN : Hid (∀ W, Below W1.heap.size W1 W → ∀ j c, rs[j]? = some c → ∃ g, ra = some ⟨g, 0, none⟩ ∧ W.cell? ⟨g, j, none⟩ = some (.bool c)) := fun W hb j c hc => by
    obtain ⟨g, e, d, _, _⟩ := ob_at (own_stay HO1.out hb) hc
    cases e
    exact ⟨g, rfl, d⟩
  have HS0 : Hid (TS fl W1 rs.length W1.heap.size (W1.heap.size + 1) 0 (.slice (some ⟨W1.heap.size + 1 + 1, 0, none⟩) 0 0) [] (((W1.alloc (.cells (mkN rs.length) 3)).alloc (.cells (mkN rs.length) 3)).alloc (.cells #[] 38))) := by
    have o1 := oi_mk W1 rs.length (by omega)
    have m1 := own_mkN (W1.alloc (.cells (mkN rs.length) 3)) rs.length (by omega)
    have b1 := Below.one (Below.refl _ (W1.alloc (.cells (mkN rs.length) 3))) (.cells (mkN rs.length) 3)
    have b2 := Below.one (Below.refl _ ((W1.alloc (.cells (mkN rs.length) 3)).alloc (.cells (mkN rs.length) 3))) (.cells #[] 38)
    have q1 := row_new ((W1.alloc (.cells (mkN rs.length) 3)).alloc (.cells (mkN rs.length) 3)) 38 1
    simp only [World.size_alloc] at m1 q1
    refine ⟨?_, ?_, own_mono q1 (by omega), fun j hj => by omega, Below.one (Below.one (Below.one (Below.refl _ W1) _) _) _⟩
    · have e : outA rs.length 0 = List.replicate rs.length 0 := by simp [outA]
      rw [e]
      exact own_stay (own_stay o1 b1) b2
    · rw [manL_zero]
      exact own_mono (own_stay m1 b2) (by omega)
  clear hir ho bb1 HB HX HX1 HRE
  go_wp2_with fail
  generalize ((W1.alloc (.cells (mkN rs.length) 3)).alloc (.cells (mkN rs.length) 3)).alloc (.cells #[] 38) = W2 at *
  clear hmk
  go_loopw [6, 7] (fun t6 t7 wr => ∃ (a : Nat) (vr : Value) (vals : List Value), t6 = vr ∧ t7 = .int .i64 (a : Int) ∧ a ≤ rs.length ∧ TS fl W1 rs.length W1.heap.size (W1.heap.size + 1) a vr vals wr) (fun _ t7 _ => rs.length - (intOf t7).toNat)
  case atStart => exact ⟨0, _, [], rfl, rfl, Nat.zero_le _, HS0.out⟩
  case round =>
    clear HS0
    obtain ⟨a, vr, vals, rfl, rfl, hal, hts⟩ := hrel
    obtain ⟨qa, qc, rfl⟩ := gown_form hts.q
    have HTS := Hid.mk' hts
    clear hts
    by_cases hlt : a < rs.length
    · have hli : (a : Int) < (rs.length : Int) := by omega
      have hol := outA_len (n := rs.length) hal
      have d0 := oi_at HTS.out.o (j := a) (by omega)
      have f0 := World.ownsRow.frozenAt (by have := HTS.out.o; unfold Oi at this; rw [hol] at this; exact this) a
      generalize (outA rs.length a)[a] = z0 at *
      obtain ⟨Y, hY, o1, m1, q1, r1, b1, p1, s1⟩ := HTS.out.begin hlt hrl (by omega) (Nat.le_refl _)
      obtain ⟨ca, hca⟩ : ∃ c, rs[a]? = some c := ⟨_, List.getElem?_eq_getElem hlt⟩
      obtain ⟨gr, rfl, c0⟩ := HCN.out Y b1 a ca hca
      have HO := Hid.mk' o1
      have HM := Hid.mk' m1
      have HQ := Hid.mk' q1
      have HR := Hid.mk' r1
      have HBY := Hid.mk' b1
      have HP := Hid.mk' p1
      have HSY := Hid.mk' s1
      have HCA := Hid.mk' hca
      have HYY := Hid.mk' hY
      rw [hY] at c0
      obtain ⟨z0', z1, z2, z3, z4⟩ := HZ.out Y b1
      rw [hY] at z0' z1 z2 z3 z4
      clear o1 m1 q1 r1 b1 p1 s1 hca hY hol
      cases ca
      · have HNR : Hid (rowL fl rs.length a = List.replicate rs.length false ∧ manL fl rs.length (a + 1) = manL fl rs.length a) := rowL_no fun hr => by
          rcases HIR.out with ⟨_, e⟩ | ⟨_, _, _, h4⟩
          · rw [e] at hlt; simp at hlt
          · rw [(h4 a).2 hr] at HCA; cases HCA.out
        have HFI : Hid (∃ v' W', (Builtin.append_ #[58, 58] 58 #[.slice qa a qc, .slice (some ⟨Y.heap.size, 0, none⟩) 1 1]).run Tryd.prog (Y.alloc (.cells #[.slice (some ⟨wr.heap.size, 0, none⟩) rs.length rs.length] 38)) = .ok v' W' ∧ TS fl W1 rs.length W1.heap.size (W1.heap.size + 1) (a + 1) v' (vals ++ [.slice (some ⟨wr.heap.size, 0, none⟩) rs.length rs.length]) W') :=
          TS.finish HO.out (by rw [HNR.out.2]; exact HM.out) HQ.out HR.out HBY.out (by rw [HNR.out.1, ← rowP_zero fl rs.length a]; exact HP.out) hlt hrl _
        clear z0' z1 z2 z3 z4
        go_upto_region 18 with fail
        rw [← HYY.out]
        clear c0 d0 f0
        go_wp2_with (at_builtin; refine wpl_app rfl _ _ 58 58 _ _ rfl rfl rfl HFI.out ?_; rintro v3 W3 ts3)
        go_roundw
        case rel => exact ⟨a + 1, _, _, rfl, by go_num, hlt, ts3⟩
        case measure => simp [intOf]; omega
      · have HRA : Hid (0 < fl.length ∧ fl.length ≤ 1024 ∧ rs.length = fl.length ∧ ∀ v, rs[v]? = some true ↔ Rch fl v) := by
          rcases HIR.out with ⟨_, e⟩ | ⟨h1, h2, h3, h4⟩
          · rw [e] at hlt; simp at hlt
          · exact ⟨h1, h2, h3, h4⟩
        have hl0 := HRA.out.1
        have hl1 := HRA.out.2.1
        go_wp2_with fail
        rw [← HYY.out]
        clear c0 d0 f0 z0' z1 z2 z3 z4
        refine (HWO.out a Y (HON.out _ HBY.out)).mono ?_
        rintro e W5 ⟨v5, ws, rfl, hws, hob5, bb5⟩
        obtain ⟨a5, c5, rfl⟩ := gown_form hob5
        have HWS := Hid.mk' hws
        have HWL : Hid (ws.length = rs.length) := by
          rcases HWS.out with ⟨h, _⟩ | ⟨_, _, h3, _⟩
          · omega
          · have := HRA.out.2.2.1
            show ws.length = rs.length
            omega
        have HOW := Hid.mk' hob5
        have HO5 := Hid.mk' (own_stay HO.out bb5)
        have HM5 := Hid.mk' (own_stay HM.out bb5)
        have HQ5 := Hid.mk' (own_stay HQ.out bb5)
        have HR5 : Hid (∀ j, j < a → Ob W1.heap.size (rowL fl rs.length j) (vals.getD j undef) W5) := fun j hj => own_stay (HR.out j hj) bb5
        have HP5 := Hid.mk' (own_stay HP.out bb5)
        have HB5 := Hid.mk' (Below.on HBY.out bb5)
        have HWR : Hid (W1.heap.size ≤ wr.heap.size) := HTS.out.b.size
        have HRO : Hid (∀ j, j < a → (vals.getD j undef).ownBlock ≠ some wr.heap.size) := fun j hj e => by
          have := ((HTS.out.r j hj).lt _ e).2
          omega
        have HSZ5 : Hid (wr.heap.size + 1 ≤ W5.heap.size) := by rw [← HSY.out]; exact bb5.size
        have HMW : Hid (W1.heap.size + 1 < wr.heap.size) := (HTS.out.m.lt (W1.heap.size + 1) rfl).2
        clear hws hob5 bb5 HO HM HQ HR HP
        rw [HWL.out]
        go_wp2_with fail
        obtain ⟨Wo, hWo⟩ : ∃ Wo, Wo = wr := ⟨_, rfl⟩
        subst hWo
        go_loopw [10] (fun t10 wr2 => ∃ b : Nat, t10 = .int .i64 (b : Int) ∧ b ≤ rs.length ∧ On W1.heap.size (manP fl rs.length a b) (.slice (some ⟨W1.heap.size + 1, 0, none⟩) rs.length rs.length) wr2 ∧ Ob W1.heap.size (rowP fl rs.length a b) (.slice (some ⟨Wo.heap.size, 0, none⟩) rs.length rs.length) wr2 ∧ K2 (W1.heap.size + 1) Wo.heap.size W5 wr2) (fun t10 _ => rs.length - (intOf t10).toNat)
        case atStart => exact ⟨0, rfl, Nat.zero_le _, by rw [manP_zero]; exact HM5.out, HP5.out, K2.refl _ _ _⟩
        case round =>
          obtain ⟨b, rfl, hbl', hm, hp, hk2⟩ := hrel
          have HMB := Hid.mk' hm
          have HPB := Hid.mk' hp
          have HK2 := Hid.mk' hk2
          have HBB : Hid (Below W1.heap.size W1 wr) := HB5.out.trans (hk2.below (Nat.le_succ _) HWR.out HB5.out.size)
          clear hm hp hk2
          by_cases hbl : b < rs.length
          · have hbi : (b : Int) < (rs.length : Int) := by omega
            obtain ⟨cb, hcb⟩ : ∃ c, rs[b]? = some c := ⟨_, List.getElem?_eq_getElem hbl⟩
            obtain ⟨gr', er, c0⟩ := HCN.out wr HBB.out b cb hcb
            cases er
            obtain ⟨wb, hwb⟩ : ∃ c, ws[b]? = some c := ⟨_, List.getElem?_eq_getElem (by rw [HWL.out]; exact hbl)⟩
            have how : Ob Y.heap.size ws (.slice a5 ws.length c5) wr := own_k2 HOW.out HK2.out (fun e => by have h1 := own_base HOW.out _ e; have h2 := HMW.out; have h3 := HSY.out; omega) (fun e => by have h1 := own_base HOW.out _ e; have h3 := HSY.out; omega)
            obtain ⟨g5, e5, c1, -, -⟩ := ob_at how hwb
            cases e5
            have hpl := rowP_len (l := fl) (a := a) (n := rs.length) (b := b) (by omega)
            have hml := manP_len (l := fl) (a := a) (n := rs.length) (b := b) (by omega)
            have c2 := ob_cell HPB.out (j := b) (k := (rowP fl rs.length a b)[b]'(by omega)) (List.getElem?_eq_getElem (by omega))
            have f2 := World.ownsRow.frozenAt (by have := HPB.out; unfold Ob at this; rw [hpl] at this; exact this) b
            have c3 := on_cell HMB.out (manP_at hbl)
            have f3 := World.ownsRow.frozenAt (by have := HMB.out; unfold On at this; rw [hml] at this; exact this) b
            have hcl := cntA_le fl a b
            have HNF : Hid (domb fl (a : Int) (b : Int) = false → On W1.heap.size (manP fl rs.length a (b + 1)) (.slice (some ⟨W1.heap.size + 1, 0, none⟩) rs.length rs.length) (wr.setCell ⟨Wo.heap.size, b, none⟩ (.bool false)) ∧ Ob W1.heap.size (rowP fl rs.length a (b + 1)) (.slice (some ⟨Wo.heap.size, 0, none⟩) rs.length rs.length) (wr.setCell ⟨Wo.heap.size, b, none⟩ (.bool false)) ∧ K2 (W1.heap.size + 1) Wo.heap.size W5 (wr.setCell ⟨Wo.heap.size, b, none⟩ (.bool false))) := fun hd => by
              obtain ⟨cur, hcur, _⟩ := own_blk HPB.out
              refine ⟨by rw [manP_same hbl hd]; exact own_set HMB.out hcur (by decide) b _, ?_, HK2.out.put (.inr rfl) _ _⟩
              have := ob_put HPB.out b false
              rw [← hd, rowP_succ hbl] at this
              rw [hd] at this
              exact this
            have HNT : Hid (domb fl (a : Int) (b : Int) = true → On W1.heap.size (manP fl rs.length a (b + 1)) (.slice (some ⟨W1.heap.size + 1, 0, none⟩) rs.length rs.length) ((wr.setCell ⟨Wo.heap.size, b, none⟩ (.bool true)).setCell ⟨W1.heap.size + 1, b, none⟩ (.int .i64 ((cntA fl a b : Int) + 1))) ∧ Ob W1.heap.size (rowP fl rs.length a (b + 1)) (.slice (some ⟨Wo.heap.size, 0, none⟩) rs.length rs.length) ((wr.setCell ⟨Wo.heap.size, b, none⟩ (.bool true)).setCell ⟨W1.heap.size + 1, b, none⟩ (.int .i64 ((cntA fl a b : Int) + 1))) ∧ K2 (W1.heap.size + 1) Wo.heap.size W5 ((wr.setCell ⟨Wo.heap.size, b, none⟩ (.bool true)).setCell ⟨W1.heap.size + 1, b, none⟩ (.int .i64 ((cntA fl a b : Int) + 1)))) := fun hd => by
              obtain ⟨cur, hcur, _⟩ := own_blk HPB.out
              have m1 := own_set HMB.out hcur (by decide) b (.bool true)
              have m2 := on_put m1 b (cntA fl a b + 1)
              have e : cntA fl (a + 1) b = cntA fl a b + 1 := by rw [cntA_succ, hd]; rfl
              rw [← e, manP_succ hbl, e, Int.natCast_add, Int.natCast_one] at m2
              have p1 := ob_put HPB.out b true
              rw [← hd, rowP_succ hbl, hd] at p1
              obtain ⟨cur2, hcur2, _⟩ := own_blk m1
              exact ⟨m2, own_set p1 hcur2 (by decide) b _, (HK2.out.put (.inr rfl) _ _).put (.inl rfl) _ _⟩
            generalize (rowP fl rs.length a b)[b] = p0 at *
            have hRM : ¬ (Wo.heap.size = W1.heap.size + 1) := fun e => by have := HMW.out; omega
            have HDV : Hid (domb fl (a : Int) (b : Int) = (cb && (((a : Int) == (b : Int)) || !wb))) := by
              have hRa : Rch fl a := (HRA.out.2.2.2 a).1 HCA.out
              rcases HWS.out with ⟨h, _⟩ | ⟨_, _, _, h4⟩
              · omega
              · have k4 := HRA.out.2.2.2 b
                rw [hcb] at k4
                show _ = _
                cases cb
                · rw [domb_no (l := fl) (b := (b : Int)) (fun h => by have := k4.2 (by simpa using h.2); cases this) (a : Int)]; rfl
                · have k1 := (domb_way hl0 hl1 (a := a) (k4.1 rfl)).1
                  have k3 := h4 b
                  rw [hwb] at k3
                  have k5 : (a : Int) = (b : Int) → ¬ RchW fl (a : Int) b := fun e hw => hw.ne (by omega)
                  rw [Bool.eq_iff_iff, k1]
                  simp only [Bool.true_and, Bool.or_eq_true, beq_iff_eq, Bool.not_eq_true']
                  constructor
                  · intro h
                    refine .inr ?_
                    cases wb with
                    | false => rfl
                    | true => exact absurd (k3.1 rfl) h
                  · rintro (h | h)
                    · exact k5 h
                    · intro hw
                      have := k3.2 hw
                      rw [h] at this; cases this
            generalize domb fl (a : Int) (b : Int) = D at *
            clear hcb hwb how hpl hml
            obtain ⟨qe, hqe⟩ : ∃ q, ((a : Int) == (b : Int)) = q := ⟨_, rfl⟩
            rw [hqe] at HDV
            cases cb
            · obtain rfl : D = false := HDV.out
              go_wp2_with fail
              go_roundw
              case rel => exact ⟨b + 1, by go_num, hbl, HNF.out rfl⟩
              case measure => simp [intOf]; omega
            · cases qe
              · cases wb
                · obtain rfl : D = true := HDV.out
                  go_wp2_with fail
                  go_roundw
                  case rel => exact ⟨b + 1, by go_num, hbl, HNT.out rfl⟩
                  case measure => simp [intOf]; omega
                · obtain rfl : D = false := HDV.out
                  go_wp2_with fail
                  go_roundw
                  case rel => exact ⟨b + 1, by go_num, hbl, HNF.out rfl⟩
                  case measure => simp [intOf]; omega
              · obtain rfl : D = true := HDV.out
                go_wp2_with fail
                go_roundw
                case rel => exact ⟨b + 1, by go_num, hbl, HNT.out rfl⟩
                case measure => simp [intOf]; omega
          · have e : b = rs.length := by omega
            rw [e, manP_all] at HMB
            rw [e, rowP_all] at HPB
            clear e
            have HFI : Hid (∃ v' W', (Builtin.append_ #[58, 58] 58 #[.slice qa a qc, .slice (some ⟨wr.heap.size, 0, none⟩) 1 1]).run Tryd.prog (wr.alloc (.cells #[.slice (some ⟨Wo.heap.size, 0, none⟩) rs.length rs.length] 38)) = .ok v' W' ∧ TS fl W1 rs.length W1.heap.size (W1.heap.size + 1) (a + 1) v' (vals ++ [.slice (some ⟨Wo.heap.size, 0, none⟩) rs.length rs.length]) W') := by
              obtain ⟨cm, hcm, _⟩ := own_blk HM5.out
              obtain ⟨cp, hcp, _⟩ := own_blk HP5.out
              refine TS.finish (own_k2 HO5.out HK2.out (fun e => by have e2 : some W1.heap.size = some (W1.heap.size + 1) := e; simp at e2) (own_ty hcp HO5.out (by decide))) HMB.out (own_k2 HQ5.out HK2.out (own_ty hcm HQ5.out (by decide)) (own_ty hcp HQ5.out (by decide))) (fun j hj => own_k2 (HR5.out j hj) HK2.out (own_ty hcm (HR5.out j hj) (by decide)) (HRO.out j hj)) HBB.out HPB.out hlt hrl _
            go_wp2_with (at_builtin; refine wpl_app rfl _ _ 58 58 _ _ rfl rfl rfl HFI.out ?_; rintro v3 W3 ts3)
            go_roundw
            case rel => exact ⟨a + 1, _, _, rfl, by go_num, hlt, ts3⟩
            case measure => simp [intOf]; omega
    · obtain rfl : a = rs.length := by omega
      obtain ⟨Wo, hWo⟩ : ∃ Wo, Wo = wr := ⟨_, rfl⟩
      subst hWo
      have HO0 : Hid (Oi W1.heap.size ([] ++ List.replicate (rs.length - 0) (-1 : Int)) (.slice (some ⟨W1.heap.size, 0, none⟩) rs.length rs.length) Wo) := by
        have := HTS.out.o
        rw [show outA rs.length rs.length = [] ++ List.replicate (rs.length - 0) (-1 : Int) by simp [outA]] at this
        exact this
      have HMW : Hid (W1.heap.size + 1 < Wo.heap.size) := (HTS.out.m.lt (W1.heap.size + 1) rfl).2
      go_wp2_with fail
      go_loopw [11] (fun t11 wr => ∃ (b : Nat) (ts : List Int), t11 = .int .i64 (b : Int) ∧ b ≤ rs.length ∧ ts.length = b ∧ (∀ v r, ts[v]? = some r → TrAt fl v r) ∧ Oi W1.heap.size (ts ++ List.replicate (rs.length - b) (-1)) (.slice (some ⟨W1.heap.size, 0, none⟩) rs.length rs.length) wr ∧ Wo.grownBy wr (some W1.heap.size)) (fun t11 _ => rs.length - (intOf t11).toNat)
      case atStart => exact ⟨0, [], rfl, Nat.zero_le _, rfl, fun v r h => by simp at h, HO0.out, grown_refl _ _⟩
      case round =>
        clear HO0
        obtain ⟨b, ts, rfl, hbl, htl, htr, hob, hgr⟩ := hrel
        have HTR := Hid.mk' htr
        have HOB := Hid.mk' hob
        have HGR := Hid.mk' hgr
        clear htr hob hgr
        by_cases hbn : b < rs.length
        · have hbi : (b : Int) < (rs.length : Int) := by omega
          have HRA : Hid (0 < fl.length ∧ fl.length ≤ 1024 ∧ rs.length = fl.length) := by
            rcases HIR.out with ⟨_, e⟩ | ⟨h1, h2, h3, h4⟩
            · rw [e] at hbn; simp at hbn
            · exact ⟨h1, h2, h3⟩
          have HO1 : Hid (Oi W1.heap.size (ts ++ [(-1 : Int)] ++ List.replicate (rs.length - (b + 1)) (-1)) (.slice (some ⟨W1.heap.size, 0, none⟩) rs.length rs.length) wr) := by
            have h := HOB.out
            rw [show rs.length - b = (rs.length - (b + 1)) + 1 by omega, List.replicate_succ] at h
            rw [List.append_assoc]
            exact h
          obtain ⟨Wp, hWp⟩ : ∃ X, X = wr := ⟨_, rfl⟩
          subst hWp
          have HGP := Hid.mk' HGR.out
          clear HOB HGR
          go_wp2_with fail
          go_loopw [12] (fun t12 wr => ∃ (a : Nat) (r : Int), t12 = .int .i64 (a : Int) ∧ a ≤ rs.length ∧ Bst fl b a r ∧ Oi W1.heap.size (ts ++ [r] ++ List.replicate (rs.length - (b + 1)) (-1)) (.slice (some ⟨W1.heap.size, 0, none⟩) rs.length rs.length) wr ∧ Wo.grownBy wr (some W1.heap.size)) (fun t12 _ => rs.length - (intOf t12).toNat)
          case atStart => exact ⟨0, -1, rfl, Nat.zero_le _, bst_zero _ _, HO1.out, HGP.out⟩
          case round =>
            clear HO1 HGP
            obtain ⟨a, r, rfl, hal, hbs, hob, hgr⟩ := hrel
            have HBS := Hid.mk' hbs
            have HOB := Hid.mk' hob
            have HGR := Hid.mk' hgr
            clear hbs hob hgr
            by_cases hal2 : a < rs.length
            · have hai : (a : Int) < (rs.length : Int) := by omega
              obtain ⟨curO, hcurO, _⟩ := own_blk HTS.out.o
              have hq := HTS.out.q.kept HGR.out (.inr (own_ty hcurO HTS.out.q (by decide)))
              have hr := (HTS.out.r a hal2).kept HGR.out (.inr (own_ty hcurO (HTS.out.r a hal2) (by decide)))
              have hm := HTS.out.m.kept HGR.out (.inr (fun e => by have e2 : some (W1.heap.size + 1) = some W1.heap.size := e; simp at e2))
              obtain ⟨gq, rfl, cQ⟩ := q_cell hq hal2
              obtain ⟨gr, cr, er, cR⟩ := row_cell hr hbn
              rw [er] at cQ
              have HMC : Hid (∀ x, x < rs.length → wr.cell? ⟨W1.heap.size + 1, x, none⟩ = some (.int .i64 (dmC fl x : Int))) := fun x hx => by
                have := on_cell hm (manL_at (l := fl) (a := rs.length) hx)
                rw [show cntA fl rs.length x = dmC fl x by have h := HRA.out; rw [h.2.2]; exact cntA_dm h.1 h.2.1 x] at this
                exact this
              have cM := HMC.out a hal2
              have hlen : (ts ++ [r] ++ List.replicate (rs.length - (b + 1)) (-1 : Int)).length = rs.length := by simp; omega
              have cO : wr.cell? ⟨W1.heap.size, b, none⟩ = some (.int .i64 r) := by
                have h := oi_at HOB.out (j := b) (by omega)
                rw [h]
                congr 2
                rw [List.getElem_append_left (by simp; omega), List.getElem_append_right (by omega)]
                simp [htl]
              have fO := World.ownsRow.frozenAt (by have := HOB.out; unfold Oi at this; rw [hlen] at this; exact this) b
              have HST : Hid (∀ nq, Oi W1.heap.size (ts ++ [(a : Int)] ++ List.replicate (rs.length - (b + 1)) (-1)) (.slice (some ⟨W1.heap.size, 0, none⟩) rs.length rs.length) ((wr.drewN nq).setCell ⟨W1.heap.size, b, none⟩ (.int .i64 (a : Int)))) := fun nq => by
                have h := oi_put (W := wr.drewN nq) HOB.out b (a : Int)
                rw [show (ts ++ [r] ++ List.replicate (rs.length - (b + 1)) (-1 : Int)).set b (a : Int) = ts ++ [(a : Int)] ++ List.replicate (rs.length - (b + 1)) (-1) by rw [List.append_assoc, List.set_append_right _ _ (by omega), htl, Nat.sub_self, List.append_assoc]; rfl] at h
                exact h
              have HDD : Hid (domb fl (a : Int) (b : Int) = true ↔ Dm fl a b) := by
                have h := HRA.out
                rw [domb_true]
                unfold domB
                simp only [Int.toNat_natCast]
                exact ⟨fun h => h.2.2.2.2, fun hd => ⟨h.1, h.2.1, by omega, by omega, hd⟩⟩
              have hdl := dmC_le fl a
              have hfl := HRA.out.2.1
              clear hq hr hm er hlen
              by_cases hab : a = b
              · have hq1 : ((a : Int) != (b : Int)) = false := bne_no (by omega)
                have HBN : Hid (Bst fl b (a + 1) r) := HBS.out.skip (.inl hab)
                clear hab
                generalize domb fl (a : Int) (b : Int) = D at *
                go_upto_region 25 with fail
                go_quiet (fail)
                have HOW : Hid (Oi W1.heap.size (ts ++ [r] ++ List.replicate (rs.length - (b + 1)) (-1)) (.slice (some ⟨W1.heap.size, 0, none⟩) rs.length rs.length) (wr.drewN nq)) := HOB.out
                have HGW : Hid (Wo.grownBy (wr.drewN nq) (some W1.heap.size)) := ⟨HGR.out.os, HGR.out.tape, HGR.out.output, HGR.out.size, HGR.out.block⟩
                have HNX := Hid.mk' (HBN.out)
                clear cO fO cQ cR cM
                generalize wr.drewN nq = Wq at *
                go_wp2_with fail
                go_roundw
                case rel => exact ⟨a + 1, _, by go_num, hal2, HNX.out, HOW.out, HGW.out⟩
                case measure => simp [intOf]; omega
              · have hq1 : ((a : Int) != (b : Int)) = true := bne_of (by omega)
                obtain ⟨D, hD⟩ : ∃ D, domb fl (a : Int) (b : Int) = D := ⟨_, rfl⟩
                rw [hD] at cR HDD
                clear hD
                cases D
                · have HBN : Hid (Bst fl b (a + 1) r) := HBS.out.skip (.inr fun hd => by have := HDD.out.2 hd; cases this)
                  go_upto_region 25 with fail
                  go_quiet (fail)
                  have HOW : Hid (Oi W1.heap.size (ts ++ [r] ++ List.replicate (rs.length - (b + 1)) (-1)) (.slice (some ⟨W1.heap.size, 0, none⟩) rs.length rs.length) (wr.drewN nq)) := HOB.out
                  have HGW : Hid (Wo.grownBy (wr.drewN nq) (some W1.heap.size)) := ⟨HGR.out.os, HGR.out.tape, HGR.out.output, HGR.out.size, HGR.out.block⟩
                  have HNX := Hid.mk' (HBN.out)
                  clear cO fO cQ cR cM
                  generalize wr.drewN nq = Wq at *
                  go_wp2_with fail
                  go_roundw
                  case rel => exact ⟨a + 1, _, by go_num, hal2, HNX.out, HOW.out, HGW.out⟩
                  case measure => simp [intOf]; omega
                · have hd : Dm fl a b := HDD.out.1 rfl
                  rcases HBS.out with ⟨rfl, _⟩ | ⟨k, rfl, hka, _⟩
                  · have HBN : Hid (Bst fl b (a + 1) (a : Int)) := HBS.out.first hab hd
                    clear hd hab
                    go_upto_region 25 with fail
                    go_quiet (fail)
                    have HOW : Hid (Oi W1.heap.size (ts ++ [(a : Int)] ++ List.replicate (rs.length - (b + 1)) (-1)) (.slice (some ⟨W1.heap.size, 0, none⟩) rs.length rs.length) ((wr.drewN nq).setCell ⟨W1.heap.size, b, none⟩ (.int .i64 (a : Int)))) := HST.out nq
                    have HGW : Hid (Wo.grownBy ((wr.drewN nq).setCell ⟨W1.heap.size, b, none⟩ (.int .i64 (a : Int))) (some W1.heap.size)) := ⟨HGR.out.os, HGR.out.tape, HGR.out.output, by simp only [World.setCell, Array.size_modify]; exact HGR.out.size, fun k hk hr => (heap_setCell_other (wr.drewN nq) ⟨W1.heap.size, b, none⟩ k _ (fun e => hr (by rw [e]))).trans (HGR.out.block k hk hr)⟩
                    have HNX := Hid.mk' (HBN.out)
                    have cq : (wr.drewN nq).cell? ⟨W1.heap.size, b, none⟩ = some (.int .i64 (-1)) := cO
                    have fq : (wr.drewN nq).frozen? ⟨W1.heap.size, b, none⟩ = false := fO
                    clear cO fO cQ cR cM
                    generalize wr.drewN nq = Wq at *
                    go_wp2_with fail
                    go_roundw
                    case rel => exact ⟨a + 1, _, by go_num, hal2, HNX.out, HOW.out, HGW.out⟩
                    case measure => simp [intOf]; omega
                  · have cK := HMC.out k (by omega)
                    have hkn : ¬ (k : Int) < 0 := by omega
                    have hki : (k : Int) < (rs.length : Int) := by omega
                    by_cases hmore : dmC fl k < dmC fl a
                    · have hmi : (dmC fl k : Int) < (dmC fl a : Int) := by omega
                      have HBN : Hid (Bst fl b (a + 1) (a : Int)) := HBS.out.more hab hd hmore
                      clear hd hab hmore
                      go_upto_region 25 with fail
                      go_quiet (fail)
                      have HOW : Hid (Oi W1.heap.size (ts ++ [(a : Int)] ++ List.replicate (rs.length - (b + 1)) (-1)) (.slice (some ⟨W1.heap.size, 0, none⟩) rs.length rs.length) ((wr.drewN nq).setCell ⟨W1.heap.size, b, none⟩ (.int .i64 (a : Int)))) := HST.out nq
                      have HGW : Hid (Wo.grownBy ((wr.drewN nq).setCell ⟨W1.heap.size, b, none⟩ (.int .i64 (a : Int))) (some W1.heap.size)) := ⟨HGR.out.os, HGR.out.tape, HGR.out.output, by simp only [World.setCell, Array.size_modify]; exact HGR.out.size, fun k hk hr => (heap_setCell_other (wr.drewN nq) ⟨W1.heap.size, b, none⟩ k _ (fun e => hr (by rw [e]))).trans (HGR.out.block k hk hr)⟩
                      have HNX := Hid.mk' (HBN.out)
                      have cq : (wr.drewN nq).cell? ⟨W1.heap.size, b, none⟩ = some (.int .i64 (k : Int)) := cO
                      have fq : (wr.drewN nq).frozen? ⟨W1.heap.size, b, none⟩ = false := fO
                      clear cO fO cQ cR cM cK
                      generalize wr.drewN nq = Wq at *
                      go_wp2_with fail
                      go_roundw
                      case rel => exact ⟨a + 1, _, by go_num, hal2, HNX.out, HOW.out, HGW.out⟩
                      case measure => simp [intOf]; omega
                    · have hmi : ¬ (dmC fl k : Int) < (dmC fl a : Int) := by omega
                      have HBN : Hid (Bst fl b (a + 1) (k : Int)) := HBS.out.less hmore
                      clear hd hab hmore
                      go_upto_region 25 with fail
                      go_quiet (fail)
                      have HOW : Hid (Oi W1.heap.size (ts ++ [(k : Int)] ++ List.replicate (rs.length - (b + 1)) (-1)) (.slice (some ⟨W1.heap.size, 0, none⟩) rs.length rs.length) (wr.drewN nq)) := HOB.out
                      have HGW : Hid (Wo.grownBy (wr.drewN nq) (some W1.heap.size)) := ⟨HGR.out.os, HGR.out.tape, HGR.out.output, HGR.out.size, HGR.out.block⟩
                      have HNX := Hid.mk' (HBN.out)
                      clear cO fO cQ cR cM cK
                      generalize wr.drewN nq = Wq at *
                      go_wp2_with fail
                      go_roundw
                      case rel => exact ⟨a + 1, _, by go_num, hal2, HNX.out, HOW.out, HGW.out⟩
                      case measure => simp [intOf]; omega
            · have ea : a = rs.length := by omega
              have HTA : Hid (∀ v q, (ts ++ [r])[v]? = some q → TrAt fl v q) := fun v q hq => by
                by_cases hv : v < b
                · rw [List.getElem?_append_left (by omega)] at hq
                  exact HTR.out v q hq
                · rw [List.getElem?_append_right (by omega)] at hq
                  have hvb : v = b := by
                    have := (List.getElem?_eq_some_iff.1 hq).1
                    simp at this
                    omega
                  subst hvb
                  rw [htl, Nat.sub_self] at hq
                  cases hq
                  have h := HRA.out
                  have hb2 := HBS.out
                  rw [ea, h.2.2] at hb2
                  exact hb2.tr h.1
              clear ea
              go_wp2_with fail
              go_roundw
              case rel => exact ⟨b + 1, ts ++ [r], by go_num, hbn, by rw [List.length_append, htl]; rfl, HTA.out, HOB.out, HGR.out⟩
              case measure => simp [intOf]; omega
        · have eb : b = rs.length := by omega
          have HIT : Hid (IsT fl ts) := by
            rcases HIR.out with ⟨h, e2⟩ | ⟨h1, h2, h3, _⟩
            · refine .inl ⟨h, ?_⟩
              rw [e2] at eb
              exact List.length_eq_zero_iff.1 (by rw [htl, eb]; rfl)
            · refine .inr ⟨h1, h2, by omega, fun v hv => ?_⟩
              have hvt : v < ts.length := by omega
              have := HTR.out v _ (List.getElem?_eq_getElem hvt)
              rcases this with ⟨e3, h4⟩ | ⟨k, e3, h4⟩
              · exact .inl ⟨by rw [List.getElem?_eq_getElem hvt, e3], h4⟩
              · exact .inr ⟨k, by rw [List.getElem?_eq_getElem hvt, e3], h4⟩
          have HTL : Hid (ts.length = rs.length) := (by omega : ts.length = rs.length)
          have HFI : Hid (Oi w.heap.size ts (.slice (some ⟨W1.heap.size, 0, none⟩) rs.length rs.length) wr) := by
            have h := HOB.out
            rw [eb, Nat.sub_self, List.replicate_zero, List.append_nil] at h
            exact own_mono h HB1.out.size
          have HFB : Hid (Below w.heap.size w wr) := HON.out _ (HTS.out.b.grown HGR.out HTS.out.b.size fun k e => by cases e; exact Nat.le_refl _)
          clear eb
          go_wp2_with fail
          go_ret
          refine ⟨W1.heap.size, ts, ?_, HIT.out, ?_, HFB.out⟩
          · rw [HTL.out]; rfl
          · rw [HTL.out]; exact HFI.out
end Go.Proofs.YtlnjhnbiljkbmaaDoor
