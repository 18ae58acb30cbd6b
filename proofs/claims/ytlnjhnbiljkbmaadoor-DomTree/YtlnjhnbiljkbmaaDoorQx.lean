/- The law DomClimbs. -/
import Derived.Test.YtlnjhnbiljkbmaaDoorQw
import Derived.Test.YtlnjhnbiljkbmaaDoorNj
namespace Go.Proofs.YtlnjhnbiljkbmaaDoor
open Go.RowKit Go.Shelf

theorem domb_zero {l : List Is} (h0 : 0 < l.length) (h1 : l.length ≤ 1024) (a : Int) : domb l a 0 = (a == 0) := by
  rw [Bool.eq_iff_iff, domb_true, beq_iff_eq]
  unfold domB
  constructor
  · rintro ⟨_, _, h3, _, h5⟩
    have := dm_at_zero.1 h5
    omega
  · rintro rfl
    exact ⟨h0, h1, by omega, by omega, Dm.refl .zero⟩
theorem domb_idm {l : List Is} (h0 : 0 < l.length) (h1 : l.length ≤ 1024) {v r : Nat} (h : Idm l v r) (a : Int) : domb l a (v : Int) = (((v : Int) == a) || domb l a (r : Int)) := by
  rw [Bool.eq_iff_iff, Bool.or_eq_true, domb_true, domb_true, beq_iff_eq]
  unfold domB
  simp only [Int.toNat_natCast]
  constructor
  · rintro ⟨_, _, h3, _, h5⟩
    rcases h.mem.1 h5 with e | hd
    · exact .inl (by omega)
    · exact .inr ⟨h0, h1, h3, by omega, hd⟩
  · rintro (e | ⟨_, _, h3, _, hd⟩)
    · refine ⟨h0, h1, by omega, by omega, ?_⟩
      rw [← e, Int.toNat_natCast]
      exact Dm.refl h.1.1
    · exact ⟨h0, h1, h3, by omega, h.mem.2 (.inr hd)⟩
theorem domb_no {l : List Is} {b : Int} (h : ¬ (0 ≤ b ∧ Rch l b.toNat)) (a : Int) : domb l a b = false := domb_false fun hd => h ⟨hd.2.2.2.1, hd.2.2.2.2.1⟩
theorem domb_way {l : List Is} (h0 : 0 < l.length) (h1 : l.length ≤ 1024) {a b : Nat} (hb : Rch l b) : (domb l (a : Int) (b : Int) = true ↔ ¬ RchW l (a : Int) b) ∧ (domb l (a : Int) (b : Int) = true → Rch l a) := by
  have e : domb l (a : Int) (b : Int) = true ↔ Dm l a b := by
    rw [domb_true]
    unfold domB
    simp only [Int.toNat_natCast]
    exact ⟨fun h => h.2.2.2.2, fun h => ⟨h0, h1, by omega, by omega, h⟩⟩
  exact ⟨e.trans ⟨fun h => h.2, fun h => ⟨hb, h⟩⟩, fun h => (e.1 h).left⟩
theorem dmC_pos {l : List Is} (h0 : 0 < l.length) {v : Nat} (h : Rch l v) : 0 < dmC l v := List.length_pos_of_mem ((mem_dmL h0).2 (Dm.refl h))
set_option maxRecDepth 100000 in
set_option maxHeartbeats 4000000 in
theorem climbs_any (f : Fn) (a b : Int) (w : World) (hi : Iss w f.ca f.code) (hc : f.code.length ≤ f.cc) (hG : 0 < w.heap.size) (hT : Tb w) : Calls Tryd.prog 5 #[f.val, .int .i64 a, .int .i64 b] w fun e w' => e = .returned (.bool true) ∧ Below w.heap.size w w' := by
  have HFX : Hid (∀ W, Below w.heap.size w W → Calls Tryd.prog 10 #[] W fun e w' => e = .returned (.bool true) ∧ Below W.heap.size W w') := fun W hb => fixed_any W (Nat.lt_of_lt_of_le hG hb.size) (hT.keep (hb.block _ hG))
  have HTR : Hid (∀ W, Below w.heap.size w W → Calls Tryd.prog 12 #[f.val] W (TrP f.code W)) := fun W hb => tree_any f W (hi.stay hb) hc (Nat.lt_of_lt_of_le hG hb.size) (hT.keep (hb.block _ hG))
  have HDM : Hid (∀ (a b : Int) W, Below w.heap.size w W → Calls Tryd.prog 8 #[f.val, .int .i64 a, .int .i64 b] W (DmP f.code a b W)) := fun a b W hb => dominates_any f a b W (hi.stay hb) hc
  have HRE : Hid (∀ W, Below w.heap.size w W → Calls Tryd.prog 15 #[f.val] W (ReP f.code W)) := fun W hb => rreach_any f W (hi.stay hb)
  have HWO : Hid (∀ (g : Int) W, Below w.heap.size w W → Calls Tryd.prog 16 #[f.val, .int .i64 g] W (WoP f.code g W)) := fun g W hb => without_any f g W (hi.stay hb)
  clear hi hc hG hT
  obtain ⟨fn, fpa, fpc, fps, frg, fwd, fca, fcc, fl⟩ := f
  unfold Fn.val at *
  simp only at HTR HDM HRE HWO ⊢
  obtain ⟨W0, hW0⟩ : ∃ X, X = w.alloc (.cells #[.string fn, .slice fpa fps.length fpc, .int .i64 frg, .int .i64 fwd, .slice fca fl.length fcc] 25) := ⟨_, rfl⟩
  have hb0 : Below w.heap.size w W0 := by rw [hW0]; exact Below.one (Below.refl _ w) _
  have hx : W0.heap[w.heap.size]? = some (.cells #[.string fn, .slice fpa fps.length fpc, .int .i64 frg, .int .i64 fwd, .slice fca fl.length fcc] 25) := by rw [hW0]; exact heap_alloc_new w _
  have HZ : Hid (∀ W, Below W0.heap.size W0 W → W.cell? ⟨w.heap.size, 0, none⟩ = some (.string fn) ∧ W.cell? ⟨w.heap.size, 1, none⟩ = some (.slice fpa fps.length fpc) ∧ W.cell? ⟨w.heap.size, 2, none⟩ = some (.int .i64 frg) ∧ W.cell? ⟨w.heap.size, 3, none⟩ = some (.int .i64 fwd) ∧ W.cell? ⟨w.heap.size, 4, none⟩ = some (.slice fca fl.length fcc)) := fun W hb => by
    have h := blk_stay hx hb
    exact ⟨cell_of_obj h rfl, cell_of_obj h rfl, cell_of_obj h rfl, cell_of_obj h rfl, cell_of_obj h rfl⟩
  have HON : Hid (∀ W, Below W0.heap.size W0 W → Below w.heap.size w W) := fun W hb => Below.on hb0 hb
  have HW0 := Hid.mk' hW0
  clear hx hb0 hW0
  go_enter Tryd.func5, Tryd.ntmps5
  go_wp2_with fail
  rw [← HW0.out]
  refine (HFX.out W0 (HON.out _ (Below.refl _ _))).mono ?_
  rintro e W1 ⟨rfl, bb1⟩
  have HB1 := Hid.mk' bb1
  clear bb1 HW0
  obtain ⟨z0, z1, z2, z3, z4⟩ := HZ.out W1 HB1.out
  go_wp2_with fail
  refine (HTR.out W1 (HON.out _ HB1.out)).mono ?_
  rintro e W2 ⟨g, ts, rfl, hit, hoi, bb2⟩
  have HB2 := Hid.mk' (Below.on HB1.out bb2)
  have HIT := Hid.mk' hit
  have HOI := Hid.mk' hoi
  clear bb2 hit hoi z0 z1 z2 z3 z4
  obtain ⟨z0, z1, z2, z3, z4⟩ := HZ.out W2 HB2.out
  go_wp2_with fail
  refine (HRE.out W2 (HON.out _ HB2.out)).mono ?_
  rintro e W3 ⟨vr, rs, rfl, hir, hob, bb3⟩
  obtain ⟨ra, rc, rfl⟩ := gown_form hob
  have HB3 := Hid.mk' (Below.on HB2.out bb3)
  have HIR := Hid.mk' hir
  have HOB := Hid.mk' hob
  have HO3 := Hid.mk' (own_stay HOI.out bb3)
  have hln : rs.length = ts.length := by
    rcases HIR.out with ⟨h, e⟩ | ⟨h1, h2, h3, _⟩
    · rcases HIT.out with ⟨_, e2⟩ | ⟨g1, g2, _⟩
      · rw [e, e2]; rfl
      · omega
    · rcases HIT.out with ⟨h, _⟩ | ⟨_, _, g3, _⟩
      · omega
      · omega
  have HLN := Hid.mk' hln
  have htl : ts.length ≤ 1024 := by rw [← HLN.out]; exact HIR.out.len
  clear hln
  clear bb3 hir hob z0 z1 z2 z3 z4 HOI
  rw [HLN.out]
  have hq : ((ts.length : Int) != (ts.length : Int)) = false := bne_no rfl
  obtain ⟨z0, z1, z2, z3, z4⟩ := HZ.out W3 HB3.out
  have HRL : Hid (∀ v, Rch fl v → 0 < ts.length → v < ts.length) := fun v hv h => by
    rcases HIR.out with ⟨_, e⟩ | ⟨h1, _, h3, _⟩
    · have := HLN.out; rw [e] at this; simp at this; omega
    · have := hv.lt h1; have := HLN.out; omega
  have HR0 : Hid (ts.length = 0 → 0 = fl.length ∨ 1024 < fl.length) := fun h => by
    rcases HIR.out with ⟨h1, _⟩ | ⟨h1, _, h3, _⟩
    · omega
    · have := HLN.out; omega
  by_cases hb1 : b < 0
  · have HNO := Hid.mk' (domb_no (l := fl) (b := b) (fun h => by omega) a)
    go_wp2_with fail
    refine (HDM.out a b W3 (HON.out _ HB3.out)).mono ?_
    rintro e W4 ⟨rfl, bb4⟩
    rw [HNO.out]
    have HB4 := Hid.mk' (Below.on HB3.out bb4)
    clear bb4
    go_wp2_with fail
    go_ret
    exact ⟨rfl, HON.out _ HB4.out⟩
  by_cases hb2 : (ts.length : Int) ≤ b
  · have HNO : Hid (domb fl a b = false) := domb_false fun hd => by
      have h1 := HRL.out _ hd.2.2.2.2.1
      have h2 := HR0.out
      have h3 := hd.1
      have h4 := hd.2.1
      by_cases h : ts.length = 0
      · have := h2 h; omega
      · have := h1 (by omega); omega
    go_wp2_with fail
    refine (HDM.out a b W3 (HON.out _ HB3.out)).mono ?_
    rintro e W4 ⟨rfl, bb4⟩
    rw [HNO.out]
    have HB4 := Hid.mk' (Below.on HB3.out bb4)
    clear bb4
    go_wp2_with fail
    go_ret
    exact ⟨rfl, HON.out _ HB4.out⟩
  obtain ⟨y, rfl⟩ : ∃ y : Nat, b = y := ⟨b.toNat, by omega⟩
  have hyl : y < ts.length := by omega
  have hyi : (y : Int) < (ts.length : Int) := by omega
  obtain ⟨hl0, hl1, hl2⟩ : 0 < fl.length ∧ fl.length ≤ 1024 ∧ ts.length = fl.length := by
    rcases HIT.out with ⟨_, e⟩ | ⟨h1, h2, h3, _⟩
    · rw [e] at hyl; simp at hyl
    · exact ⟨h1, h2, h3⟩
  have HL2 := Hid.mk' hl2
  clear hl2
  have HTA : Hid (∀ v, v < ts.length → (ts[v]? = some (-1) ∧ ¬ (Rch fl v ∧ v ≠ 0)) ∨ ∃ r : Nat, ts[v]? = some (r : Int) ∧ Idm fl v r) := fun v hv => by
    rcases HIT.out with ⟨_, e⟩ | ⟨_, _, _, h⟩
    · rw [e] at hv; simp at hv
    · exact h v (by have := HL2.out; omega)
  have HRA : Hid (∀ v, rs[v]? = some true ↔ Rch fl v) := by
    rcases HIR.out with ⟨h, _⟩ | ⟨_, _, _, h⟩
    · omega
    · exact h
  have hnb1 : ¬ (y : Int) < 0 := by omega
  obtain ⟨cy, hcy⟩ : ∃ c, rs[y]? = some c := ⟨_, List.getElem?_eq_getElem (by have := HLN.out; omega)⟩
  obtain ⟨rg, rfl, d0, k1, k2⟩ := ob_at HOB.out hcy
  clear k1 k2 hb1 hb2
  cases cy
  · have hnr : ¬ Rch fl y := fun h => by rw [(HRA.out y).2 h] at hcy; cases hcy
    have HNO := Hid.mk' (domb_no (l := fl) (b := (y : Int)) (fun h => hnr (by simpa using h.2)) a)
    have HTY : Hid (∀ W, Below W3.heap.size W3 W → W.cell? ⟨g, y, none⟩ = some (.int .i64 (-1))) := fun W hb => by
      have hc := oi_at (own_stay HO3.out hb) hyl
      rcases HTA.out y hyl with ⟨h1, _⟩ | ⟨r, h1, h2⟩
      · rw [List.getElem?_eq_getElem hyl] at h1
        rw [hc, Option.some.inj h1]
      · exact absurd h2.1.1 hnr
    clear hnr hcy
    go_wp2_with fail
    refine (HDM.out a y W3 (HON.out _ HB3.out)).mono ?_
    rintro e W4 ⟨rfl, bb4⟩
    rw [HNO.out]
    have HB4 := Hid.mk' (Below.on HB3.out bb4)
    have d1 := HTY.out W4 bb4
    clear bb4
    go_wp2_with fail
    go_ret
    exact ⟨rfl, HON.out _ HB4.out⟩
  have hry : Rch fl y := (HRA.out y).1 hcy
  have HRY := Hid.mk' hry
  have hdc := dmC_le fl y
  have HIV : Hid ((false || domb fl a (y : Int)) = domb fl a (y : Int) ∧ dmC fl y + 0 ≤ fl.length) := ⟨rfl, by omega⟩
  clear hry hdc hcy
  go_wp2_with fail
  go_loopw [9, 10, 11] (fun t9 t10 t11 wr => ∃ (m : Bool) (v i : Nat), t9 = .bool m ∧ t10 = .int .i64 (v : Int) ∧ t11 = .int .i64 (i : Int) ∧ v < ts.length ∧ Rch fl v ∧ (m || domb fl a (v : Int)) = domb fl a (y : Int) ∧ dmC fl v + i ≤ fl.length ∧ wr = W3) (fun _ _ t11 _ => ts.length - (intOf t11).toNat)
  case atStart => exact ⟨false, y, 0, rfl, rfl, rfl, hyl, HRY.out, HIV.out.1, HIV.out.2, rfl⟩
  case round =>
    obtain ⟨m, v, i, rfl, rfl, rfl, hvl, hrv, hmi, hdi, rfl⟩ := hrel
    have HRV := Hid.mk' hrv
    have HMI := Hid.mk' hmi
    have HDI := Hid.mk' hdi
    have hil : i < ts.length := by have := dmC_pos hl0 hrv; have := HL2.out; omega
    have hili : (i : Int) < (ts.length : Int) := by omega
    have hvli : (v : Int) < (ts.length : Int) := by omega
    clear hrv hmi hdi HIV
    by_cases hv0 : v = 0
    · have hq0 : ((v : Int) != 0) = false := bne_no (by omega)
      have h0l : 0 < ts.length := by omega
      have h0i : (0 : Int) < (ts.length : Int) := by omega
      have HD0 : Hid ((m || (a == 0)) = domb fl a (y : Int)) := by
        have h := HMI.out
        rw [hv0] at h
        have e := domb_zero hl0 hl1 a
        show _ = _
        rw [← h, ← e]; rfl
      have d0' : wr.cell? ⟨g, 0, none⟩ = some (.int .i64 (-1)) := by
        have hc := oi_at HO3.out h0l
        rcases HTA.out 0 h0l with ⟨h1, _⟩ | ⟨r, _, h2⟩
        · rw [List.getElem?_eq_getElem h0l] at h1
          rw [hc, Option.some.inj h1]
        · exact absurd rfl h2.nz.2
      obtain ⟨D, hD⟩ : ∃ D, domb fl a (y : Int) = D := ⟨_, rfl⟩
      rw [hD] at HD0
      have HDD := Hid.mk' hD
      have HFIN : Hid (∀ W, Below wr.heap.size wr W → a < 0 ∨ (ts.length : Int) ≤ a → D = false) := fun W hb h => by
        rw [← HDD.out]
        refine domb_false fun hd => ?_
        have h1 := hd.2.2.2.2.left.lt hl0
        have h2 := hd.2.2.1
        have := HL2.out
        omega
      have hdd : (D != D) = false := by cases D <;> rfl
      clear hv0 hD HRV HDI HMI d0
      have key : ∀ W4, Below wr.heap.size wr W4 → True := fun _ _ => trivial
      clear key
      by_cases ha1 : a < 0
      · have hDf : D = false := HFIN.out _ (Below.refl _ _) (.inl ha1)
        subst hDf
        have ha0 : (a == 0) = false := beq_no (by omega)
        have hmf : m = false := by have := HD0.out; rw [ha0] at this; simpa using this
        subst hmf
        go_wp2_with fail
        refine (HDM.out a y wr (HON.out _ HB3.out)).mono ?_
        rintro e W4 ⟨rfl, bb4⟩
        rw [HDD.out]
        have HB4 := Hid.mk' (Below.on HB3.out bb4)
        clear bb4
        go_wp2_with fail
        go_ret
        exact ⟨rfl, HON.out _ HB4.out⟩
      by_cases ha2 : (ts.length : Int) ≤ a
      · have hDf : D = false := HFIN.out _ (Below.refl _ _) (.inr ha2)
        subst hDf
        have ha0 : (a == 0) = false := beq_no (by omega)
        have hmf : m = false := by have := HD0.out; rw [ha0] at this; simpa using this
        subst hmf
        go_wp2_with fail
        refine (HDM.out a y wr (HON.out _ HB3.out)).mono ?_
        rintro e W4 ⟨rfl, bb4⟩
        rw [HDD.out]
        have HB4 := Hid.mk' (Below.on HB3.out bb4)
        clear bb4
        go_wp2_with fail
        go_ret
        exact ⟨rfl, HON.out _ HB4.out⟩
      obtain ⟨x, rfl⟩ : ∃ x : Nat, a = x := ⟨a.toNat, by omega⟩
      have hxi : (x : Int) < (ts.length : Int) := by omega
      have hxn : ¬ (x : Int) < 0 := by omega
      obtain ⟨cx, hcx⟩ : ∃ c, rs[x]? = some c := ⟨_, List.getElem?_eq_getElem (by have := HLN.out; omega)⟩
      have HCX : Hid (∀ W, Below wr.heap.size wr W → W.cell? ⟨rg, x, none⟩ = some (.bool cx)) := fun W hb => by
        obtain ⟨g', e', hc, _, _⟩ := ob_at (own_stay HOB.out hb) hcx
        cases e'
        exact hc
      have HWY : Hid (∀ ws, IsW fl (x : Int) ws → ∃ wy, ws[y]? = some wy ∧ ws.length = ts.length ∧ (D == (((x : Int) == (y : Int)) || (cx && !wy))) = true) := fun ws hws => by
        rcases hws with ⟨h, _⟩ | ⟨_, _, h3, h4⟩
        · omega
        · have hyw : y < ws.length := by have := HL2.out; omega
          refine ⟨ws[y], List.getElem?_eq_getElem hyw, by have := HL2.out; omega, ?_⟩
          obtain ⟨k1, k2⟩ := domb_way hl0 hl1 (a := x) HRY.out
          rw [HDD.out] at k1 k2
          have k3 := h4 y
          rw [List.getElem?_eq_getElem hyw] at k3
          have k4 := HRA.out x
          rw [hcx] at k4
          have k5 : (x : Int) = (y : Int) → ¬ RchW fl (x : Int) y := fun e hw => hw.ne (by omega)
          generalize ws[y] = wy at *
          by_cases e : (x : Int) = (y : Int)
          · have hd : D = true := k1.2 (k5 e)
            rw [hd, show ((x : Int) == (y : Int)) = true by simp [e]]
            rfl
          · rw [beq_no e]
            by_cases hw : RchW fl (x : Int) y
            · have h6 : wy = true := by simpa using k3.2 hw
              have h7 : D = false := by
                cases hD : D with
                | false => rfl
                | true => exact absurd hw (k1.1 hD)
              rw [h6, h7]; cases cx <;> rfl
            · have h7 : D = true := k1.2 hw
              have h8 : cx = true := by simpa using k4.2 (k2 h7)
              have h6 : wy = false := by
                cases wy with
                | false => rfl
                | true => exact absurd (k3.1 rfl) hw
              rw [h6, h7, h8]; rfl
      clear hcx ha1 ha2 HFIN
      obtain ⟨q0, hq1⟩ : ∃ q, ((x : Int) == 0) = q := ⟨_, rfl⟩
      rw [hq1] at HD0
      have hgx : ¬ (ts.length : Int) ≤ (x : Int) := by omega
      have step : ∀ {m q0 D : Bool}, (m || q0) = D → (m = true ∧ D = true) ∨ (m = false ∧ q0 = D) := fun {m q0 D} h => by cases m <;> simp_all
      rcases step HD0.out with ⟨rfl, rfl⟩ | ⟨rfl, rfl⟩
      all_goals
        clear step HD0
        go_wp2_with fail
        refine (HDM.out x y wr (HON.out _ HB3.out)).mono ?_
        rintro e W4 ⟨rfl, bb4⟩
        rw [HDD.out]
        have HB4 := Hid.mk' (Below.on HB3.out bb4)
        have HBW4 := Hid.mk' bb4
        clear bb4 z0 z1 z2 z3 z4
        obtain ⟨z0, z1, z2, z3, z4⟩ := HZ.out W4 HB4.out
        go_wp2_with fail
        refine (HWO.out x W4 (HON.out _ HB4.out)).mono ?_
        rintro e W5 ⟨v5, ws, rfl, hws, hob5, bb5⟩
        obtain ⟨a5, c5, rfl⟩ := gown_form hob5
        obtain ⟨wy, hwy, hwl, hfin⟩ := HWY.out ws hws
        obtain ⟨g5, rfl, e5, _, _⟩ := ob_at hob5 hwy
        rw [hwl]
        have HB5 := Hid.mk' (Below.on HB4.out bb5)
        have cxx := HCX.out W5 (Below.on HBW4.out bb5)
        have HFI := Hid.mk' hfin
        clear hwy hwl hfin hob5 hws bb5 z0 z1 z2 z3 z4
        obtain ⟨qe, hqe⟩ : ∃ q, ((x : Int) == (y : Int)) = q := ⟨_, rfl⟩
        rw [hqe] at HFI
        cases qe
        · cases cx
          · go_wp2_with fail
            go_ret
            exact ⟨ret_bool (by first | exact HFI.out | simpa using HFI.out), HON.out _ HB5.out⟩
          · go_wp2_with fail
            go_ret
            exact ⟨ret_bool (by first | exact HFI.out | simpa using HFI.out), HON.out _ HB5.out⟩
        · go_wp2_with fail
          go_ret
          exact ⟨ret_bool (by first | exact HFI.out | simpa using HFI.out), HON.out _ HB5.out⟩
    · have hq0 : ((v : Int) != 0) = true := bne_of (by omega)
      obtain ⟨r, hr1, hr2⟩ : ∃ r : Nat, ts[v]? = some (r : Int) ∧ Idm fl v r := by
        rcases HTA.out v hvl with ⟨_, h⟩ | h
        · exact absurd ⟨HRV.out, hv0⟩ h
        · exact h
      have d1 : wr.cell? ⟨g, v, none⟩ = some (.int .i64 (r : Int)) := by
        have hc := oi_at HO3.out hvl
        rw [List.getElem?_eq_getElem hvl] at hr1
        rw [hc, Option.some.inj hr1]
      have hrl : r < ts.length := by have := hr2.1.left.lt hl0; have := HL2.out; omega
      have hrli : (r : Int) < (ts.length : Int) := by omega
      have hrn : ¬ (r : Int) < 0 := by omega
      have hrg : ¬ (ts.length : Int) ≤ (r : Int) := by omega
      have HI2 := Hid.mk' (domb_idm hl0 hl1 hr2 a)
      have HC2 := Hid.mk' (hr2.count hl0)
      have HRR := Hid.mk' hr2.1.left
      clear hr1 hr2 hv0
      obtain ⟨qq, hqq⟩ : ∃ q, ((v : Int) == a) = q := ⟨_, rfl⟩
      rw [hqq] at HI2
      cases m
      · go_wp2_with fail
        go_roundw
        case rel => exact ⟨qq, r, i + 1, rfl, rfl, by go_num, hrl, HRR.out, by have := HMI.out; rw [HI2.out, Bool.false_or] at this; exact this, by have := HDI.out; have := HC2.out; omega, trivial⟩
        case measure => simp [intOf]; omega
      · go_wp2_with fail
        go_roundw
        case rel => exact ⟨true, r, i + 1, rfl, rfl, by go_num, hrl, HRR.out, by have := HMI.out; rw [Bool.true_or] at this ⊢; exact this, by have := HDI.out; have := HC2.out; omega, trivial⟩
        case measure => simp [intOf]; omega
end Go.Proofs.YtlnjhnbiljkbmaaDoor
