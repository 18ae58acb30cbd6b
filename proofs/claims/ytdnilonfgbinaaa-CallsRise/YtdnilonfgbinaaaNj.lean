/- What can be reached: the document's own Without and Reach, walked. -/
import Derived.Test.YtdnilonfgbinaaaNi
import Derived.Maps.AppendAt
namespace Go.Proofs.Ytdnilonfgbinaaa
open Go.RowKit Go.Sort

def WoP (l : List Is) (g : Int) (w : World) (e : Ending) (w' : World) : Prop := ∃ v rs, e = .returned v ∧ IsW l g rs ∧ Ob w.heap.size rs v w' ∧ Below w.heap.size w w'
theorem ob_lit0 (W : World) : Ob W.heap.size [] (.slice (some ⟨W.heap.size, 0, none⟩) 0 0) (W.alloc (.cells #[] 4)) := row_new W 4 1
/-- Rows that have no block in common. -/
def Apart (v v' : Value) : Prop := v.ownBlock = none ∨ v.ownBlock ≠ v'.ownBlock
theorem apart_new {W : World} {N N' n n' sz sz' : Nat} {T T' : TypeId} {v v' : Value} {xs xs' : List Value} {W' : World} (h : W'.ownsRow N T sz v n xs) (h' : W.ownsRow N' T' sz' v' n' xs') (hN : W.heap.size ≤ N) : Apart v v' := by
  unfold Apart
  cases e : v.ownBlock with
  | none => exact .inl rfl
  | some k =>
    refine .inr fun e' => ?_
    have h1 := (h.lt k e).1
    have h2 := (h'.lt k e'.symm).2
    omega
theorem on_app_at {N : Nat} {l : List Nat} {v : Value} {W : World} (h : On N l v W) (hN : N ≤ W.heap.size) (hl : l.length ≤ 1000000) (k : Nat) (ty : TypeId) :
    ∃ v' W', (Builtin.append_ #[27, 27] ty #[v, .slice (some ⟨W.heap.size, 0, none⟩) 1 1]).run Try.prog (W.alloc (.cells #[.int .i64 (k : Int)] 3)) = .ok v' W' ∧ On N (l ++ [k]) v' W' ∧ W.grownBy W' v.ownBlock ∧
      (v'.ownBlock = v.ownBlock ∨ v'.ownBlock = some (W.heap.size + 1)) := by
  obtain ⟨i0, hi, hz0, hz1, hz2⟩ := info_parts Try.infoN
  obtain ⟨v', W', hr, h2, h3, _, h4⟩ := run_append_own_at (P := Try.prog) (W.alloc (.cells #[.int .i64 (k : Int)] 3)) N 27 ty 3 i0 (.int .i64 0) 1 8 Try.underlying27 hi hz0 hz1 hz2 rfl (by decide) v _ _ (h.alloc _) ⟨W.heap.size, 0, none⟩ 1 1 [.int .i64 (k : Int)] rfl (fun j u hu => by
    rw [Addr.add_lit, Nat.zero_add]
    exact new_cell _ _ _ _ _ (by rw [← hu, ← Array.getElem?_toList])) (by simp [Value.oneCell']) (by unfold maxLen; omega) (by omega) (by simp; omega)
  refine ⟨v', W', hr, ?_, grown_of_alloc h3, by rwa [World.size_alloc] at h4⟩
  unfold On
  rw [List.length_append, List.map_append]
  exact h2
theorem Apart.next {W : World} {N n sz : Nat} {T : TypeId} {v v' v2 : Value} {xs : List Value} (h : Apart v2 v) (h2 : W.ownsRow N T sz v2 n xs) (hv : v'.ownBlock = v.ownBlock ∨ v'.ownBlock = some (W.heap.size + 1)) : Apart v2 v' := by
  rcases hv with e | e
  · unfold Apart at *; rw [e]; exact h
  · unfold Apart
    rw [e]
    cases e2 : v2.ownBlock with
    | none => exact .inl rfl
    | some k => refine .inr fun e' => ?_
                injection e' with e'
                have := (h2.lt k e2).2
                omega
set_option maxRecDepth 100000 in
set_option maxHeartbeats 4000000 in
theorem without_any (f : Fn) (g : Int) (w : World) (hi : Iss w f.ca f.code) : Calls Try.prog 36 #[f.val, .int .i64 g] w (WoP f.code g w) := by
  have HN : Hid (∀ (k : Nat) w', Below w.heap.size w w' → Calls Try.prog 50 #[f.val, .int .i64 (k : Int)] w' (NxP (nxt f.code k) w')) := fun k w' hb => by
    have := rnext_any f k w' (hi.stay hb)
    rwa [nxZ_nat] at this
  have HH := Hid.mk' (has_any f)
  obtain ⟨fn, fpa, fpc, fps, frg, fwd, fca, fcc, fl⟩ := f
  unfold Fn.val at *
  simp only at hi HN HH ⊢
  have HB := Hid.mk' (Below.one (Below.refl _ w) (.cells #[.string fn, .slice fpa fps.length fpc, .int .i64 frg, .int .i64 fwd, .slice fca fl.length fcc] 42))
  have HX := Hid.mk' (heap_alloc_new w (.cells #[.string fn, .slice fpa fps.length fpc, .int .i64 frg, .int .i64 fwd, .slice fca fl.length fcc] 42))
  have hc := hi.1
  clear hi
  by_cases h0 : ¬ (0 < fl.length ∧ fl.length ≤ 1024)
  · rw [decide_eq_false h0] at HH
    have HR : Hid (IsW fl g []) := .inl ⟨by omega, rfl⟩
    clear h0
    go_enter Try.func36, Try.ntmps36
    go_wp2_with (go_at_call 49; refine (HH.out _).mono ?_; rintro e w2 ⟨rfl, bb2⟩; have bw := Below.on HB.out bb2; have HO := Hid.mk' (ob_lit0 w2))
    go_ret
    exact ⟨_, [], rfl, HR.out, own_mono HO.out bw.size, Below.one bw _⟩
  replace h0 : 0 < fl.length ∧ fl.length ≤ 1024 := by omega
  rw [decide_eq_true h0] at HH
  have HL := Hid.mk' h0
  have hmk : ∀ W, _ := fun W => run_mkB W fl.length (by omega)
  clear h0
  go_enter Try.func36, Try.ntmps36
  go_wp2_with fail
  refine (HH.out _).mono ?_
  rintro e w2 ⟨rfl, bb2⟩
  have bw := Below.on HB.out bb2
  have bs := bb2.size
  rw [World.size_alloc] at bs
  have HX2 := Hid.mk' (blk_stay HX.out bb2)
  have z4 := cell_of_obj HX2.out (j := 4) (v := .slice fca fl.length fcc) rfl
  have HO := Hid.mk' (own_mono (own_mkB w2 fl.length (by have := HL.out; omega)) bs)
  have HB1 : Hid (Below (w.heap.size + 1) (w.alloc (.cells #[.string fn, .slice fpa fps.length fpc, .int .i64 frg, .int .i64 fwd, .slice fca fl.length fcc] 42)) (w2.alloc (.cells (mkB fl.length) 4))) := by
    have := Below.one bb2 (.cells (mkB fl.length) 4)
    rwa [World.size_alloc] at this
  have HW1 : Hid (∀ W : World, Below (w.heap.size + 1) (w.alloc (.cells #[.string fn, .slice fpa fps.length fpc, .int .i64 frg, .int .i64 fwd, .slice fca fl.length fcc] 42)) W → W.heap[w.heap.size]? = some (.cells #[.string fn, .slice fpa fps.length fpc, .int .i64 frg, .int .i64 fwd, .slice fca fl.length fcc] 42) ∧ Below w.heap.size w W ∧ w.heap.size + 1 ≤ W.heap.size) := by
    intro W hb
    have h1 := (hb.block _ (Nat.lt_succ_self _)).trans HX.out
    exact ⟨h1, HB.out.trans (hb.mono (Nat.le_succ _)), (Array.getElem?_eq_some_iff.1 h1).1⟩
  have HBS := Hid.mk' bs
  clear HX HX2 HB bb2 bw bs HH
  by_cases hg : g = 0
  · have hq : (g == 0) = true := by simp [hg]
    have HR : Hid (IsW fl g (List.replicate fl.length false)) := by rw [hg]; exact isW_none HL.out.1 HL.out.2
    clear hg
    go_wp2_with fail
    go_ret
    exact ⟨_, _, rfl, HR.out, own_mono HO.out (Nat.le_succ _), (HW1.out _ HB1.out).2.1⟩
  have hq : (g == 0) = false := beq_no hg
  have HZ : Hid (Sb fl g ((List.replicate fl.length false).set 0 true) [0] 0) := Sb.start HL.out.1 hg
  obtain ⟨g', e', d0, k1, k2⟩ := ob_at HO.out (j := 0) (k := false) (by rw [List.getElem?_replicate, if_pos HL.out.1])
  cases e'
  clear k1 k2
  have f0 := World.ownsRow.frozenAt (by have := HO.out; unfold Ob at this; rw [List.length_replicate] at this; exact this) 0
  have hl0 : (0 : Int) < (fl.length : Int) := by have := HL.out; omega
  clear hg
  go_upto_region 6 with fail
  have HSW : Hid ((w2.alloc (.cells (mkB fl.length) 4)).heap.size = w2.heap.size + 1) := World.size_alloc ..
  generalize w2.alloc (.cells (mkB fl.length) 4) = W2 at *
  generalize w2.heap.size = R at *
  generalize w.alloc (.cells #[.string fn, .slice fpa fps.length fpc, .int .i64 frg, .int .i64 fwd, .slice fca fl.length fcc] 42) = w1 at *
  clear z4 hmk
  have HR0 : Hid (RI w w1 R ((List.replicate fl.length false).set 0 true) [0] (.slice (some ⟨W2.heap.size, 0, none⟩) 1 1) ((W2.setCell ⟨R, 0, none⟩ (.bool true)).alloc (.cells #[.int .i64 0] 3))) := by
    have h1 := ob_put HO.out 0 true
    have h2 := own_lit (W2.setCell ⟨R, 0, none⟩ (.bool true)) 0
    have hs : (W2.setCell ⟨R, 0, none⟩ (.bool true)).heap.size = W2.heap.size := by simp
    have b1 := Below.one (Below.refl _ (W2.setCell ⟨R, 0, none⟩ (.bool true))) (.cells #[.int .i64 0] 3)
    rw [hs] at h2 b1
    have h3 := HBS.out
    have h4 := HSW.out
    refine ⟨?_, own_mono h2 (by omega), ?_⟩
    · rw [List.length_set, List.length_replicate]; exact own_stay h1 (by rw [hs]; exact b1)
    · exact (HB1.out.setCell (by simp only; omega) _).trans (b1.mono (by omega))
  go_wp2_with fail
  generalize (W2.setCell ⟨R, 0, none⟩ (.bool true)).alloc (.cells #[.int .i64 0] 3) = W0 at *
  clear d0 f0 HO HB1
  go_loopw [6, 7] (fun t6 t7 wr => ∃ (rs : List Bool) (td : List Nat) (vt : Value) (i : Nat), t6 = vt ∧ t7 = .int .i64 (i : Int) ∧ Sb fl g rs td i ∧ RI w w1 R rs td vt wr) (fun _ t7 _ => fl.length - (intOf t7).toNat)
  case atStart => exact ⟨_, _, _, 0, rfl, rfl, HZ.out, HR0.out⟩
  case round =>
    obtain ⟨rs, td, vt, i, rfl, rfl, hsb, hri⟩ := hrel
    have HSB := Hid.mk' hsb
    have HRI := Hid.mk' hri
    obtain ⟨av, cv, rfl⟩ := gown_form hri.q
    have hll : fl.length ≤ 1024 := HL.out.2
    have htl : td.length ≤ fl.length := by have := hsb.n; omega
    clear hsb hri HZ HR0
    by_cases hit : i < td.length
    · obtain ⟨u, hu⟩ : ∃ u, td[i]? = some u := ⟨_, List.getElem?_eq_getElem hit⟩
      obtain ⟨gt, rfl, d0, k1, k2⟩ := on_at HRI.out.q hu
      clear k1 k2
      have hiti : (i : Int) < (td.length : Int) := by omega
      obtain ⟨hx, hbw, hsz⟩ := HW1.out _ HRI.out.b
      have HU := Hid.mk' hu
      have HBW := Hid.mk' hbw
      have HSZ := Hid.mk' hsz
      have z0 := cell_of_obj hx (j := 0) (v := .string fn) rfl
      have z1 := cell_of_obj hx (j := 1) (v := .slice fpa fps.length fpc) rfl
      have z2 := cell_of_obj hx (j := 2) (v := .int .i64 frg) rfl
      have z3 := cell_of_obj hx (j := 3) (v := .int .i64 fwd) rfl
      have z4 := cell_of_obj hx (j := 4) (v := .slice fca fl.length fcc) rfl
      clear hu hx hbw hsz
      go_upto_region 11 with fail
      have p0 : ∀ w', Below wr.heap.size wr w' → w'.cell? _ = some _ := fun w' h => cell_kept_below z0 h
      have p1 : ∀ w', Below wr.heap.size wr w' → w'.cell? _ = some _ := fun w' h => cell_kept_below z1 h
      have p2 : ∀ w', Below wr.heap.size wr w' → w'.cell? _ = some _ := fun w' h => cell_kept_below z2 h
      have p3 : ∀ w', Below wr.heap.size wr w' → w'.cell? _ = some _ := fun w' h => cell_kept_below z3 h
      have p4 : ∀ w', Below wr.heap.size wr w' → w'.cell? _ = some _ := fun w' h => cell_kept_below z4 h
      have pd : ∀ w', Below wr.heap.size wr w' → w'.cell? _ = some _ := fun w' h => cell_kept_below d0 h
      clear z0 z1 z2 z3 z4 d0
      go_region_held3 (fun w' => Below wr.heap.size wr w') (first | exact Below.drew (Below.refl _ _) | exact Below.on (by assumption) (by assumption) | exact Below.one (by assumption) _)
        (first
          | (go_at_call 50; refine (HN.out u _ (Below.on HBW.out (by assumption))).mono ?_; rintro e w' ⟨v2, rfl, on2, hb⟩))
      have hB : Below wr.heap.size wr w' := by assumption
      have on2' : On wr.heap.size (nxt fl u) v2 w' := on2
      have HAP0 : Hid (Apart v2 (.slice (some ⟨gt, 0, none⟩) td.length cv)) := apart_new on2' HRI.out.q (Nat.le_refl _)
      have HRI1 := Hid.mk' (HRI.out.stay HSZ.out hB)
      have HSW2 : Hid (w.heap.size + 1 ≤ w'.heap.size) := Nat.le_trans HSZ.out hB.size
      have HON := Hid.mk' on2'
      have HMEM := Hid.mk' (HSB.out.q u (List.mem_of_getElem? HU.out)).1
      have HNX : Hid (∀ v ∈ nxt fl u, v < fl.length ∧ ((v : Int) ≠ g → RchW fl g v)) := fun v hv => ⟨nxt_lt hv, fun hg => .step HMEM.out hv hg⟩
      have HNE : Hid (∀ rs td, Sb fl g rs td i → td[i]? = some u → (∀ v ∈ nxt fl u, (v : Int) ≠ g → v ∈ td) → Sb fl g rs td (i + 1)) := fun rs td h1 h2 h3 => h1.next h2 h3
      have hn2 := nxt_len fl u
      obtain ⟨a2, c2, rfl⟩ := gown_form on2'
      clear p0 p1 p2 p3 p4 pd on2 hb hB on2' HMEM
      generalize nxt fl u = nx at *
      obtain ⟨Wo, hWo⟩ : ∃ Wo, Wo = wr := ⟨_, rfl⟩
      subst hWo
      go_wp2_with fail
      go_loopw [6, 9] (fun t6 t9 wr => ∃ (rs : List Bool) (td : List Nat) (vt : Value) (k : Nat), t6 = vt ∧ t9 = .int .i64 (k : Int) ∧ k ≤ nx.length ∧ Sb fl g rs td i ∧ td[i]? = some u ∧ RI w w1 R rs td vt wr ∧ w.heap.size + 1 ≤ wr.heap.size ∧ On Wo.heap.size nx (.slice a2 nx.length c2) wr ∧ Apart (.slice a2 nx.length c2) vt ∧ ∀ v ∈ nx.take k, (v : Int) ≠ g → v ∈ td) (fun _ t9 _ => nx.length - (intOf t9).toNat)
      case atStart => exact ⟨_, _, _, 0, rfl, rfl, Nat.zero_le _, HSB.out, HU.out, HRI1.out, HSW2.out, HON.out, HAP0.out, by simp⟩
      case round =>
        clear HSB HRI HU HBW HSZ HAP0 HRI1 HON HSW2 htl
        obtain ⟨rs, td, vt, k, rfl, rfl, hk, hsb, hu, hri, hsz, hon, hap, hal⟩ := hrel
        obtain ⟨av, cv, rfl⟩ := gown_form hri.q
        have HSB := Hid.mk' hsb
        have HU := Hid.mk' hu
        have HRI := Hid.mk' hri
        have HSZ := Hid.mk' hsz
        have HON := Hid.mk' hon
        have HAP := Hid.mk' hap
        have HAL := Hid.mk' hal
        have htl : td.length ≤ fl.length := by have := hsb.n; omega
        have hrl := hsb.len
        clear hsb hu hri hsz hon hap hal
        by_cases hkl : k < nx.length
        · obtain ⟨x, hx⟩ : ∃ x, nx[k]? = some x := ⟨_, List.getElem?_eq_getElem hkl⟩
          obtain ⟨gn, rfl, d0, k1, k2⟩ := on_at HON.out hx
          clear k1 k2
          obtain ⟨hxl, hxr⟩ := HNX.out x (List.mem_of_getElem? hx)
          have HXR := Hid.mk' hxr
          have HKX := Hid.mk' hx
          have HT : Hid (nx.take (k + 1) = nx.take k ++ [x]) := by
            obtain ⟨h1, h2⟩ := List.getElem?_eq_some_iff.1 hx
            show _ = _
            rw [List.take_succ_eq_append_getElem h1, h2]
          obtain ⟨bk, hbk⟩ : ∃ b, rs[x]? = some b := ⟨_, List.getElem?_eq_getElem (by omega)⟩
          obtain ⟨g', e', d1, k1, k2⟩ := ob_at HRI.out.r hbk
          cases e'
          clear k1 k2
          have f1 := World.ownsRow.frozenAt HRI.out.r x
          have hkli : (k : Int) < (nx.length : Int) := by omega
          have hxli : (x : Int) < (fl.length : Int) := by omega
          have HBK := Hid.mk' hbk
          have HXL := Hid.mk' hxl
          clear hx hxr hbk hrl hxl
          by_cases hxg : (x : Int) = g
          · have hq1 : ((x : Int) != g) = false := bne_no hxg
            have HXG := Hid.mk' hxg
            clear hxg
            go_wp2_with fail
            go_roundw
            case rel => exact ⟨_, _, _, k + 1, rfl, by go_num, hkl, HSB.out, HU.out, HRI.out, HSZ.out, HON.out, HAP.out, fun v hv hg => by
              rw [HT.out, List.mem_append, List.mem_singleton] at hv
              rcases hv with hv | rfl
              · exact HAL.out v hv hg
              · exact absurd HXG.out hg⟩
            case measure => simp [intOf]; omega
          have hq1 : ((x : Int) != g) = true := bne_of hxg
          have HXG := Hid.mk' hxg
          clear hxg
          cases bk
          · have HRI1 := Hid.mk' (HRI.out.put x true)
            obtain ⟨cur, hcur, hRg⟩ := own_blk HRI.out.r
            have HON1 := Hid.mk' (own_set HON.out hcur (by decide) x (.bool true))
            have HNT : Hid (x ∉ td) := fun h => by have := (HSB.out.m x).2 h; rw [HBK.out] at this; cases this
            have HADD := Hid.mk' (HSB.out.add HXL.out (HXR.out HXG.out) HNT.out)
            have HS1 : Hid (w.heap.size + 1 ≤ (wr.setCell ⟨R, x, none⟩ (.bool true)).heap.size) := (by have := HSZ.out; simpa using this : _ ≤ _)
            clear hcur hRg
            go_upto_region 17 with fail
            have d2 := (on_at HON1.out (j := k) (k := x) HKX.out)
            obtain ⟨g3, e3, d2, k1, k2⟩ := d2
            cases e3
            clear k1 k2 d0 d1 f1
            generalize wr.setCell ⟨R, x, none⟩ (.bool true) = W1 at *
            have HAPP := Hid.mk' (on_app_at HRI1.out.q HS1.out (by omega) x 27)
            go_wp2_with (at_builtin; refine wpl_app rfl _ _ 27 27 _ _ rfl rfl rfl HAPP.out ?_; rintro v3 W3 ⟨on3, gr3, ow3⟩)
            obtain ⟨a3, c3, rfl⟩ := gown_form on3
            have HR3 := Hid.mk' (HRI1.out.grow HS1.out gr3 on3)
            have HO3 := Hid.mk' (HON1.out.kept gr3 HAP.out)
            have HA3 := Hid.mk' (HAP.out.next HON1.out ow3)
            have HS3 : Hid (w.heap.size + 1 ≤ W3.heap.size) := Nat.le_trans HS1.out gr3.size
            clear on3 gr3 ow3
            go_roundw
            case rel => exact ⟨_, _, _, k + 1, rfl, by go_num, hkl, HADD.out, by rw [List.getElem?_append_left (List.getElem?_eq_some_iff.1 HU.out).1]; exact HU.out, HR3.out, HS3.out, HO3.out, HA3.out, fun v hv hg => by
              rw [HT.out, List.mem_append, List.mem_singleton] at hv
              rcases hv with hv | rfl
              · exact List.mem_append_left _ (HAL.out v hv hg)
              · exact List.mem_append_right _ (by simp)⟩
            case measure => simp [intOf]; omega
          · go_wp2_with fail
            go_roundw
            case rel => exact ⟨_, _, _, k + 1, rfl, by go_num, hkl, HSB.out, HU.out, HRI.out, HSZ.out, HON.out, HAP.out, fun v hv hg => by
              rw [HT.out, List.mem_append, List.mem_singleton] at hv
              rcases hv with hv | rfl
              · exact HAL.out v hv hg
              · exact (HSB.out.m v).1 HBK.out⟩
            case measure => simp [intOf]; omega
        · have HE := Hid.mk' (HNE.out rs td HSB.out HU.out (fun v hv hg => HAL.out v (by rw [List.take_of_length_le (by omega)]; exact hv) hg))
          have hil := (List.getElem?_eq_some_iff.1 HU.out).1
          have hili : (i : Int) < (td.length : Int) := by omega
          go_wp2_with fail
          go_roundw
          case rel => exact ⟨_, _, _, i + 1, rfl, by go_num, HE.out, HRI.out⟩
          case measure => simp [intOf]; omega
    · go_wp2_with fail
      go_ret
      refine ⟨_, rs, rfl, HSB.out.done hit HL.out.1 HL.out.2, ?_, (HW1.out _ HRI.out.b).2.1⟩
      have := HRI.out.r
      rw [HSB.out.len] at this
      exact own_mono this (Nat.le_succ _)
set_option maxHeartbeats 1000000 in
theorem rreach_any (f : Fn) (w : World) (hi : Iss w f.ca f.code) : Calls Try.prog 29 #[f.val] w (ReP f.code w) := by
  have HB := Below.one (Below.refl _ w) (.cells #[.string f.name, .slice f.pa f.params.length f.pc, .int .i64 f.regs, .int .i64 f.words, .slice f.ca f.code.length f.cc] 42)
  have HW := Hid.mk' (without_any f (-1) _ (hi.stay HB))
  replace HB := Hid.mk' HB
  unfold Fn.val at *
  clear hi
  go_enter Try.func29, Try.ntmps29
  go_wp2_with (go_at_call 36; refine HW.out.mono ?_; rintro e w2 ⟨v, rs, rfl, hr, ho, bb⟩; have HIR := Hid.mk' (isW_all hr); have HO := Hid.mk' ho; clear hr ho)
  go_ret
  exact ⟨_, rs, rfl, HIR.out, own_mono HO.out HB.out.size, Below.on HB.out bb⟩
end Go.Proofs.Ytdnilonfgbinaaa
