/- Bounds: what comes is merged where something stands. -/
import Derived.Test.YtfmkjdfidenfkaaDoorVc
import Derived.Test.YtfmkjdfidenfkaaDoorYw
namespace Go.Proofs.YtfmkjdfidenfkaaDoor
open Go.RowKit
open S8 (meetB meetS joinS widS belA belB belC allS doR doB doS emB pot sv join_any widen_any)

set_option maxRecDepth 100000 in
set_option maxHeartbeats 8000000 in
theorem merge_same {N n r : Nat} {m : Mo} {f : Fn} {L : Lay} {st : Wk} {sd cm : List Sp} {tv : Nat} (w : World) (h : WkAt N n r m f L st sd cm w) (hli : st.ins.length = n) (hlc : st.chg.length = n) (ht : tv < n) (hr1 : 1 ≤ r) (hr : r ≤ 64) (h0 : insA st tv ≠ []) (hil : (insA st tv).length = r) (hcl : (chgA st tv).length = r) (hcm : cm.length = r) (hcb : ∀ k ∈ chgA st tv, k ≤ 1000000) (hs : someB (insA st tv) cm = false) : Calls Tryd.prog 47 #[.pointer (some ⟨L.B, 0, none⟩), .int .i64 (tv : Int)] w (MgP N n r m f L st st sd cm w) := by
  have HCH := Hid.mk' (changed_any w h hli hlc ht hr h0 hil hcl hcm hcb)
  rw [hs, chC_none (by omega) hs] at HCH
  have HF : Hid (∀ w1, OnlyB (L.bC tv) w w1 → w1.heap[L.bC tv]? = some (.cells ((chgA st tv).map nV).toArray 3) → MgP N n r m f L st st sd cm w (.returned (.tuple #[])) w1) := fun w1 h1 h2 => by
    have h3 := h.setC hlc ht h1 h2
    have e : ({ st with chg := st.chg.set tv (chgA st tv) } : Wk) = st := by unfold chgA; rw [set_same _ (by omega)]
    rw [e] at h3
    exact ⟨⟨_, rfl⟩, h1.below ((h.lv tv ht).1) h.lt.1, KpO.of_only h1 (.bC ht), L.bI, h3, fun _ h => .inl h⟩
  have e1 := h.k7
  have e2 := cell_of_obj h.ib (inV_at (by omega : tv < st.ins.length))
  rw [rowV, if_neg h0] at e2
  have hti : (tv : Int) < (n : Int) := by omega
  have hq : ((r : Int) == 0) = false := beq_no (by omega)
  clear h hs h0
  go_enter Tryd.func47, Tryd.ntmps47
  go_wp2_with (go_at_call 75; refine HCH.out.mono ?_; rintro e w1 ⟨rfl, ho1, hc1⟩)
  exact bodyPost_ret (v := .tuple #[]) (by simp [results, Tryd.results47, go_sem, *]) rfl (HF.out _ ho1 hc1)

/-- New spans of the first k registers. -/
def nwK (ths : List Int) (j : Nat) (s c : List Sp) (k : Nat) : List Sp := s.mapIdx fun i x => if i < k then (if j ≤ 4 then joinS x (gS c i) else widS x (gS c i) ths) else x
theorem nwK_zero (ths : List Int) (j : Nat) (s c : List Sp) : nwK ths j s c 0 = s := by
  apply List.ext_getElem?
  intro i
  unfold nwK
  rw [List.getElem?_mapIdx]
  cases s[i]? <;> simp
theorem nwK_len (ths : List Int) (j : Nat) (s c : List Sp) (k : Nat) : (nwK ths j s c k).length = s.length := by unfold nwK; simp
theorem nwK_all (ths : List Int) (j : Nat) (s c : List Sp) {k : Nat} (h : s.length ≤ k) : nwK ths j s c k = newS ths j s c := by
  apply List.ext_getElem?
  intro i
  unfold nwK newS
  rw [List.getElem?_mapIdx, List.getElem?_mapIdx]
  by_cases hj : i < s.length
  · rw [List.getElem?_eq_getElem hj]
    simp only [Option.map_some]
    rw [if_pos (by omega)]
  · rw [List.getElem?_eq_none (by omega)]; rfl
theorem nwK_at (ths : List Int) (j : Nat) (s c : List Sp) {k : Nat} (h : k < s.length) : gS (nwK ths j s c k) k = gS s k := by
  rw [gS_lt (by rw [nwK_len]; exact h), gS_lt h]
  unfold nwK
  rw [List.getElem_mapIdx, if_neg (by omega)]
theorem nwK_succ (ths : List Int) (j : Nat) (s c : List Sp) {k : Nat} (h : k < s.length) : nwK ths j s c (k + 1) = (nwK ths j s c k).set k (if j ≤ 4 then joinS (gS s k) (gS c k) else widS (gS s k) (gS c k) ths) := by
  apply List.ext_getElem?
  intro i
  rw [List.getElem?_set, nwK_len]
  unfold nwK
  rw [List.getElem?_mapIdx, List.getElem?_mapIdx]
  by_cases e : k = i
  · subst e
    rw [if_pos rfl, if_pos h, List.getElem?_eq_getElem h, gS_lt h]
    simp only [Option.map_some]
    rw [if_pos (by omega)]
  · rw [if_neg e]
    congr 1
    funext x
    by_cases hj : i < k
    · rw [if_pos (by omega), if_pos hj]
    · rw [if_neg (by omega), if_neg hj]

set_option maxRecDepth 100000 in
set_option maxHeartbeats 8000000 in
theorem merge_next {N n r : Nat} {m : Mo} {f : Fn} {L : Lay} {st : Wk} {sd cm : List Sp} {tv : Nat} (w : World) (h : WkAt N n r m f L st sd cm w) (hli : st.ins.length = n) (hlc : st.chg.length = n) (hlm : st.mar.length = n) (hlj : st.jn.length = n) (ht : tv < n) (hr1 : 1 ≤ r) (hr : r ≤ 64) (h0 : insA st tv ≠ []) (hil : (insA st tv).length = r) (hcl : (chgA st tv).length = r) (hcm : cm.length = r) (hcb : ∀ k ∈ chgA st tv, k ≤ 1000000) (hjb : jnA st tv ≤ 100000000) (hs : someB (insA st tv) cm = true) (hth : ∀ W, Below N w W → Thr W m.ta m.ths) : Calls Tryd.prog 47 #[.pointer (some ⟨L.B, 0, none⟩), .int .i64 (tv : Int)] w (MgP N n r m f L st { ins := st.ins.set tv (newS m.ths (jnA st tv + 1) (insA st tv) cm), chg := st.chg.set tv (chC (insA st tv) cm (chgA st tv)), mar := st.mar.set tv true, jn := st.jn.set tv (jnA st tv + 1) } sd cm w) := by
  have HCH := Hid.mk' (changed_any w h hli hlc ht hr h0 hil hcl hcm hcb)
  rw [hs] at HCH
  have HW := Hid.mk' h
  have e1 := h.k7
  have e2 := cell_of_obj h.ib (inV_at (by omega : tv < st.ins.length))
  rw [rowV, if_neg h0] at e2
  have hti : (tv : Int) < (n : Int) := by omega
  have hq : ((r : Int) == 0) = false := beq_no (by omega)
  obtain ⟨j, hj⟩ : ∃ j, jnA st tv = j := ⟨_, rfl⟩
  rw [hj] at hjb ⊢
  have HJN := Hid.mk' hj
  clear h hs hj
  go_enter Tryd.func47, Tryd.ntmps47
  go_upto_region 4 with (go_at_call 75; refine HCH.out.mono ?_; rintro e w1 ⟨rfl, ho1, hc1⟩)
  have h1 := HW.out.setC hlc ht ho1 hc1
  have c10 := h1.k10
  have c9 := h1.k9
  have c12 := h1.k12
  have cj := cell_of_obj h1.jb (nVs_at (by show st.jn[tv]? = some j; rw [← HJN.out]; unfold jnA; rw [List.getElem?_eq_getElem (by omega), getD_lt (by omega)]) : _ = some (Value.int .i64 (j : Int)))
  have fj := Lib.frozen_of_heap h1.jb tv
  have hw : IntKind.i64.wrap ((j : Int) + 1) = ((j + 1 : Nat) : Int) := by rw [IntKind.wrap_i64]; omega
  have h2 : WkAt N n r m f L _ sd cm (w1.setCell ⟨L.gJ, tv, none⟩ (.int .i64 ((j : Int) + 1))) := h1.putJ tv (j + 1)
  have HB2 : Hid (Below N w (w1.setCell ⟨L.gJ, tv, none⟩ (.int .i64 ((j : Int) + 1)))) := (ho1.below (HW.out.lv tv ht).1 HW.out.lt.1).setCell (by exact HW.out.lo.2.2.2.2.1) _
  have HK2 : Hid (KpO (OwnB n L st) w (w1.setCell ⟨L.gJ, tv, none⟩ (.int .i64 ((j : Int) + 1)))) := (KpO.of_only ho1 (.bC ht)).trans (KpO.put .gJ _ _)
  clear e1 e2 hc1 ho1 h1 c9 c12 hjb hcb
  go_upto_region 5 with fail
  generalize w1.setCell ⟨L.gJ, tv, none⟩ (.int .i64 ((j : Int) + 1)) = W2 at *
  have b9 := h2.k9
  have bM := cell_of_obj h2.mb (bVs_at (by show tv < st.mar.length; omega))
  have fM := Lib.frozen_of_heap h2.mb tv
  have h3 := h2.putM tv true
  have HB3 : Hid (Below N w (W2.setCell ⟨L.gM, tv, none⟩ (.bool true))) := HB2.out.setCell (by exact HW.out.lo.2.2.2.1) _
  have HK3 : Hid (KpO (OwnB n L st) w (W2.setCell ⟨L.gM, tv, none⟩ (.bool true))) := HK2.out.trans (KpO.put .gM _ _)
  clear cj fj c10 h2 HB2 HK2
  go_upto_region 6 with fail
  generalize W2.setCell ⟨L.gM, tv, none⟩ (.bool true) = W3 at *
  have c12 := h3.k12
  have H3 := Hid.mk' h3
  clear b9 bM fM h3
  have hne : ∀ k, nwK m.ths (j + 1) (insA st tv) cm k ≠ [] := fun k e => by
    have := congrArg List.length e
    rw [nwK_len, hil] at this
    simp at this
    omega
  have HNE := Hid.mk' hne
  have HTT := Hid.mk' hth
  clear hne hth
  go_wp2_with fail
  go_loopw [60] (fun t60 wr => ∃ k : Nat, k ≤ r ∧ t60 = .int .i64 (k : Int) ∧ OnlyB (L.bI tv) W3 wr ∧ RgB wr (L.bI tv) (nwK m.ths (j + 1) (insA st tv) cm k)) (fun t60 _ => r - (intOf t60).toNat)
  case atStart => exact ⟨0, Nat.zero_le _, rfl, OnlyB.refl _ _, by rw [nwK_zero]; exact H3.out.iv tv ht h0⟩
  case round =>
    obtain ⟨k, hk, rfl, ho, hc⟩ := hrel
    have HO := Hid.mk' ho
    have hA := H3.out.setI hli ht h0 ho (HNE.out k) hc
    by_cases hlt : k < r
    · have hki : (k : Int) < (r : Int) := by omega
      have hki2 : k * 2 + 2 ≤ r * 2 := by omega
      have HS := Hid.mk' (nwK_succ m.ths (j + 1) (insA st tv) cm (show k < (insA st tv).length by omega))
      have a0 := hA.k0
      have a10 := hA.k10
      have aj := cell_of_obj hA.jb (nVs_at (by show (st.jn.set tv (j + 1))[tv]? = some (j + 1); rw [List.getElem?_set_self (by omega)]) : _ = some (Value.int .i64 ((j + 1 : Nat) : Int)))
      have i0 := hc.c0 (a := k) (by rw [nwK_len]; omega)
      have i1 := hc.c1 (a := k) (by rw [nwK_len]; omega)
      rw [nwK_at _ _ _ _ (show k < (insA st tv).length by omega)] at i0 i1
      have d0 := hA.db.c0 (a := k) (by omega)
      have d1 := hA.db.c1 (a := k) (by omega)
      have HBR : Hid (Below N w wr) := HB3.out.trans (ho.below ((HW.out.lv tv ht).2 h0) (Nat.le_trans HW.out.lt.1 HB3.out.size))
      have HJO := Hid.mk' fun W => join_any (gS (insA st tv) k) (gS cm k) W
      have HWD : Hid (∀ W', Below N w W' → Calls Tryd.prog 77 #[sv (gS (insA st tv) k), sv (gS cm k), .slice m.ta m.ths.length m.tc] W' fun e w' => e = .returned (sv (widS (gS (insA st tv) k) (gS cm k) m.ths)) ∧ Below W'.heap.size W' w') := fun W' hW' => widen_any _ _ _ _ _ (by have := (HTT.out W' hW').1; omega) W' (HTT.out W' hW').2
      have HA := Hid.mk' hA
      have HC := Hid.mk' hc
      clear hA hc ho c12
      obtain ⟨R, hR⟩ : ∃ R, (if j + 1 ≤ 4 then joinS (gS (insA st tv) k) (gS cm k) else widS (gS (insA st tv) k) (gS cm k) m.ths) = R := ⟨_, rfl⟩
      rw [hR] at HS
      have HR := Hid.mk' hR
      clear hR
      have HKS0 := Hid.mk' (And.intro (show k < (nwK m.ths (j + 1) (insA st tv) cm k).length by rw [nwK_len]; omega) (nwK_at m.ths (j + 1) (insA st tv) cm (show k < (insA st tv).length by omega)))
      generalize gS (insA st tv) k = S at *
      generalize gS cm k = D at *
      obtain ⟨S1, S2⟩ := S
      obtain ⟨D1, D2⟩ := D
      obtain ⟨R1, R2⟩ := R
      simp only at i0 i1 d0 d1
      have HFO : Hid (∀ wx, Below wr.heap.size wr wx → OnlyB (L.bI tv) W3 ((wx.setCell ⟨L.bI tv, k * 2, none⟩ (.int .i64 R1)).setCell ⟨L.bI tv, k * 2 + 1, none⟩ (.int .i64 R2)) ∧ RgB ((wx.setCell ⟨L.bI tv, k * 2, none⟩ (.int .i64 R1)).setCell ⟨L.bI tv, k * 2 + 1, none⟩ (.int .i64 R2)) (L.bI tv) (nwK m.ths (j + 1) (insA st tv) cm (k + 1))) := fun wx hx => ⟨(HO.out.trans (OnlyB.of_below hx)).put _ _ _ _, by rw [HS.out]; exact (HC.out.stay hx).put k (R1, R2)⟩
      have B := Below.one (Below.refl _ wr) (.cells #[.int .i64 D1, .int .i64 D2] 54)
      have hX := heap_alloc_new wr (.cells #[.int .i64 D1, .int .i64 D2] 54)
      have hlr : L.bI tv < wr.heap.size := HC.out.lt
      have hsz : (wr.alloc (.cells #[.int .i64 D1, .int .i64 D2] 54)).heap.size = wr.heap.size + 1 := by simp
      have b10 := cell_kept_below a10 B
      have bj := cell_kept_below aj B
      by_cases hj4 : j + 1 ≤ 4
      · have hRJ : joinS (S1, S2) (D1, D2) = (R1, R2) := by have := HR.out; rwa [if_pos hj4] at this
        rw [hRJ] at HJO
        have hji : ((j + 1 : Nat) : Int) ≤ 4 := by omega
        go_upto_region 10 with fail
        have HRW := Hid.mk' (HC.out.stay B)
        have HBW := Hid.mk' B
        have HXX := Hid.mk' hX
        have ne1 : ¬ wr.heap.size = L.bI tv := by omega
        have ne2 : ¬ L.bI tv = wr.heap.size := by omega
        have HKS : Hid (k < (nwK m.ths (j + 1) (insA st tv) cm k).length ∧ gS (nwK m.ths (j + 1) (insA st tv) cm k) k = (S1, S2)) := HKS0
        clear hX hsz hlr
        generalize wr.alloc (.cells #[.int .i64 D1, .int .i64 D2] 54) = W at *
        have hS0 : (fun w' => RgB w' (L.bI tv) (nwK m.ths (j + 1) (insA st tv) cm k) ∧ w'.heap[wr.heap.size]? = some (.cells #[.int .i64 D1, .int .i64 D2] 54) ∧ True) W.drew := ⟨HRW.out.stay (Below.drew (Below.refl _ W)), HXX.out, trivial⟩
        have y0 : ∀ w', (fun w' => RgB w' (L.bI tv) (nwK m.ths (j + 1) (insA st tv) cm k) ∧ w'.heap[wr.heap.size]? = some (.cells #[.int .i64 D1, .int .i64 D2] 54) ∧ True) w' → w'.cell? ⟨wr.heap.size, 0, none⟩ = some (.int .i64 D1) := fun w' h => cell_of_obj h.2.1 rfl
        have y1 : ∀ w', (fun w' => RgB w' (L.bI tv) (nwK m.ths (j + 1) (insA st tv) cm k) ∧ w'.heap[wr.heap.size]? = some (.cells #[.int .i64 D1, .int .i64 D2] 54) ∧ True) w' → w'.cell? ⟨wr.heap.size, 1, none⟩ = some (.int .i64 D2) := fun w' h => cell_of_obj h.2.1 rfl
        have y2 : ∀ w', (fun w' => RgB w' (L.bI tv) (nwK m.ths (j + 1) (insA st tv) cm k) ∧ w'.heap[wr.heap.size]? = some (.cells #[.int .i64 D1, .int .i64 D2] 54) ∧ True) w' → w'.cell? ⟨L.bI tv, k * 2, none⟩ = some (.int .i64 S1) := fun w' h => by have := h.1.c0 HKS.out.1; rwa [HKS.out.2] at this
        have y3 : ∀ w', (fun w' => RgB w' (L.bI tv) (nwK m.ths (j + 1) (insA st tv) cm k) ∧ w'.heap[wr.heap.size]? = some (.cells #[.int .i64 D1, .int .i64 D2] 54) ∧ True) w' → w'.cell? ⟨L.bI tv, k * 2 + 1, none⟩ = some (.int .i64 S2) := fun w' h => by have := h.1.c1 HKS.out.1; rwa [HKS.out.2] at this
        clear B i0 i1 d0 d1 a10 aj b10 bj
        refine wp_region_K (fun w' => RgB w' (L.bI tv) (nwK m.ths (j + 1) (insA st tv) cm k) ∧ w'.heap[wr.heap.size]? = some (.cells #[.int .i64 D1, .int .i64 D2] 54) ∧ True) 9 (by kernel_rfl) ?_
        simp only [List.size_toArray, List.length_cons, List.length_nil, Nat.reduceAdd]
        refine wpAnyK_takeL (i := 0) (v := ?tvqa0) rfl (by decide) (by kernel_rfl) (by kernel_rfl) (by kernel_rfl) (by kernel_rfl) (by kernel_rfl) (fun _ _ _ h => h) (by rfl) ?tyqa0 hS0 ?trqa0
        case tyqa0 => (intro w' hSw; go_simp; try with_reducible rfl)
        simp only [Act.put, List.setIfInBounds_toArray, List.set_cons_zero, List.set_cons_succ]
        refine wpAnyK_takeL (i := 1) (v := ?tvqa1) rfl (by decide) (by kernel_rfl) (by kernel_rfl) (by kernel_rfl) (by kernel_rfl) (by kernel_rfl) (fun _ _ _ h => h) (by rfl) ?tyqa1 hS0 ?trqa1
        case tyqa1 => (intro w' hSw; go_simp; try with_reducible rfl)
        simp only [Act.put, List.setIfInBounds_toArray, List.set_cons_zero, List.set_cons_succ]
        refine wpAnyK_takeL (i := 2) (v := ?tvqa2) rfl (by decide) (by kernel_rfl) (by kernel_rfl) (by kernel_rfl) (by kernel_rfl) (by kernel_rfl) (fun _ _ _ h => h) (by rfl) ?tyqa2 hS0 ?trqa2
        case tyqa2 => (intro w' hSw; go_simp; try with_reducible rfl)
        simp only [Act.put, List.setIfInBounds_toArray, List.set_cons_zero, List.set_cons_succ]
        refine wpAnyK_takeL (i := 3) (v := ?tvqa3) rfl (by decide) (by kernel_rfl) (by kernel_rfl) (by kernel_rfl) (by kernel_rfl) (by kernel_rfl) (fun _ _ _ h => h) (by rfl) ?tyqa3 hS0 ?trqa3
        case tyqa3 => (intro w' hSw; go_simp; try with_reducible rfl)
        simp only [Act.put, List.setIfInBounds_toArray, List.set_cons_zero, List.set_cons_succ]
        refine wpAnyK_takeL (i := 4) (v := ?tvqa4) rfl (by decide) (by kernel_rfl) (by kernel_rfl) (by kernel_rfl) (by kernel_rfl) (by kernel_rfl) (fun _ _ _ h => h) (by rfl) ?tyqa4 hS0 ?trqa4
        case tyqa4 => (intro w' hSw; go_simp; try with_reducible rfl)
        simp only [Act.put, List.setIfInBounds_toArray, List.set_cons_zero, List.set_cons_succ]
        refine wpAnyK_takeL (i := 5) (v := ?tvqa5) rfl (by decide) (by kernel_rfl) (by kernel_rfl) (by kernel_rfl) (by kernel_rfl) (by kernel_rfl) (fun _ _ _ h => h) (by rfl) ?tyqa5 hS0 ?trqa5
        case tyqa5 => (intro w' hSw; go_simp; try with_reducible rfl)
        simp only [Act.put, List.setIfInBounds_toArray, List.set_cons_zero, List.set_cons_succ]
        refine wpAnyK_takeL (i := 6) (v := ?tvqa6) rfl (by decide) (by kernel_rfl) (by kernel_rfl) (by kernel_rfl) (by kernel_rfl) (by kernel_rfl) (fun _ _ _ h => h) (by rfl) ?tyqa6 hS0 ?trqa6
        case tyqa6 => (intro w' hSw; go_simp; try with_reducible rfl)
        simp only [Act.put, List.setIfInBounds_toArray, List.set_cons_zero, List.set_cons_succ]
        refine wpAnyK_one (i := 7) (by kernel_rfl) rfl (fun K hK => ?_)
        go_simp
        go_at_call 76
        refine (HJO.out _).mono ?_
        rintro e w5 ⟨rfl, hb5⟩
        have B5 := Below.on (Below.drew (Below.refl _ W)) hb5
        have hS5 : (fun w' => RgB w' (L.bI tv) (nwK m.ths (j + 1) (insA st tv) cm k) ∧ w'.heap[wr.heap.size]? = some (.cells #[.int .i64 D1, .int .i64 D2] 54) ∧ True) w5 := ⟨HRW.out.stay B5, blk_stay HXX.out B5, trivial⟩
        refine hK.out _ _ (fun _ _ => hS5) ?_
        clear hK K
        refine wpAnyK_takeL (i := 8) (v := ?tvqa8) rfl (by decide) (by kernel_rfl) (by kernel_rfl) (by kernel_rfl) (by kernel_rfl) (by kernel_rfl) (fun _ _ _ h => h) (by rfl) ?tyqa8 hS5 ?trqa8
        case tyqa8 => (intro w' hSw; go_simp; try with_reducible rfl)
        simp only [Act.put, List.setIfInBounds_toArray, List.set_cons_zero, List.set_cons_succ]
        have z0 := y2 _ hS5
        have z1 := y3 _ hS5
        have zf := fun q => hS5.1.fz q
        have HE := Hid.mk' (HFO.out w5 (Below.on HBW.out B5))
        refine wpAnyK_one (i := 9) (by kernel_rfl) rfl (fun K hK => ?_)
        go_simp
        refine hK.out _ _ (fun h => absurd rfl h) ?_
        clear hK K
        refine wpAnyK_done (by kernel_rfl) ?_ _
        go_wp2_with fail
        go_roundw
        case rel => exact ⟨k + 1, by omega, by go_num, HE.out.1, HE.out.2⟩
        case measure => simp [intOf]; omega
      · have hRW : widS (S1, S2) (D1, D2) m.ths = (R1, R2) := by have := HR.out; rwa [if_neg hj4] at this
        rw [hRW] at HWD
        have hji : ¬ ((j + 1 : Nat) : Int) ≤ 4 := by omega
        have b0 := cell_kept_below a0 B
        have HBN := Hid.mk' (HBR.out.trans (B.mono (Nat.le_trans HW.out.lt.1 (Nat.le_trans HB3.out.size HO.out.size))))
        go_upto_region 11 with fail
        have HRW := Hid.mk' (HC.out.stay B)
        have HBW := Hid.mk' B
        have HXX := Hid.mk' hX
        have ne1 : ¬ wr.heap.size = L.bI tv := by omega
        have ne2 : ¬ L.bI tv = wr.heap.size := by omega
        have HKS : Hid (k < (nwK m.ths (j + 1) (insA st tv) cm k).length ∧ gS (nwK m.ths (j + 1) (insA st tv) cm k) k = (S1, S2)) := HKS0
        clear hX hsz hlr
        generalize wr.alloc (.cells #[.int .i64 D1, .int .i64 D2] 54) = W at *
        have hS0 : (fun w' => RgB w' (L.bI tv) (nwK m.ths (j + 1) (insA st tv) cm k) ∧ w'.heap[wr.heap.size]? = some (.cells #[.int .i64 D1, .int .i64 D2] 54) ∧ w'.cell? ⟨L.B, 0, none⟩ = some (.slice m.ta m.ths.length m.tc)) W.drew := ⟨HRW.out.stay (Below.drew (Below.refl _ W)), HXX.out, cell_kept_below b0 (Below.drew (Below.refl _ W))⟩
        have y0 : ∀ w', (fun w' => RgB w' (L.bI tv) (nwK m.ths (j + 1) (insA st tv) cm k) ∧ w'.heap[wr.heap.size]? = some (.cells #[.int .i64 D1, .int .i64 D2] 54) ∧ w'.cell? ⟨L.B, 0, none⟩ = some (.slice m.ta m.ths.length m.tc)) w' → w'.cell? ⟨wr.heap.size, 0, none⟩ = some (.int .i64 D1) := fun w' h => cell_of_obj h.2.1 rfl
        have y1 : ∀ w', (fun w' => RgB w' (L.bI tv) (nwK m.ths (j + 1) (insA st tv) cm k) ∧ w'.heap[wr.heap.size]? = some (.cells #[.int .i64 D1, .int .i64 D2] 54) ∧ w'.cell? ⟨L.B, 0, none⟩ = some (.slice m.ta m.ths.length m.tc)) w' → w'.cell? ⟨wr.heap.size, 1, none⟩ = some (.int .i64 D2) := fun w' h => cell_of_obj h.2.1 rfl
        have y2 : ∀ w', (fun w' => RgB w' (L.bI tv) (nwK m.ths (j + 1) (insA st tv) cm k) ∧ w'.heap[wr.heap.size]? = some (.cells #[.int .i64 D1, .int .i64 D2] 54) ∧ w'.cell? ⟨L.B, 0, none⟩ = some (.slice m.ta m.ths.length m.tc)) w' → w'.cell? ⟨L.bI tv, k * 2, none⟩ = some (.int .i64 S1) := fun w' h => by have := h.1.c0 HKS.out.1; rwa [HKS.out.2] at this
        have y3 : ∀ w', (fun w' => RgB w' (L.bI tv) (nwK m.ths (j + 1) (insA st tv) cm k) ∧ w'.heap[wr.heap.size]? = some (.cells #[.int .i64 D1, .int .i64 D2] 54) ∧ w'.cell? ⟨L.B, 0, none⟩ = some (.slice m.ta m.ths.length m.tc)) w' → w'.cell? ⟨L.bI tv, k * 2 + 1, none⟩ = some (.int .i64 S2) := fun w' h => by have := h.1.c1 HKS.out.1; rwa [HKS.out.2] at this
        have y4 : ∀ w', (fun w' => RgB w' (L.bI tv) (nwK m.ths (j + 1) (insA st tv) cm k) ∧ w'.heap[wr.heap.size]? = some (.cells #[.int .i64 D1, .int .i64 D2] 54) ∧ w'.cell? ⟨L.B, 0, none⟩ = some (.slice m.ta m.ths.length m.tc)) w' → w'.cell? ⟨L.B, 0, none⟩ = some (.slice m.ta m.ths.length m.tc) := fun w' h => h.2.2
        clear B i0 i1 d0 d1 a10 aj b10 bj a0
        refine wp_region_K (fun w' => RgB w' (L.bI tv) (nwK m.ths (j + 1) (insA st tv) cm k) ∧ w'.heap[wr.heap.size]? = some (.cells #[.int .i64 D1, .int .i64 D2] 54) ∧ w'.cell? ⟨L.B, 0, none⟩ = some (.slice m.ta m.ths.length m.tc)) 14 (by kernel_rfl) ?_
        simp only [List.size_toArray, List.length_cons, List.length_nil, Nat.reduceAdd]
        refine wpAnyK_takeL (i := 0) (v := ?tvqb0) rfl (by decide) (by kernel_rfl) (by kernel_rfl) (by kernel_rfl) (by kernel_rfl) (by kernel_rfl) (fun _ _ _ h => h) (by rfl) ?tyqb0 hS0 ?trqb0
        case tyqb0 => (intro w' hSw; go_simp; try with_reducible rfl)
        simp only [Act.put, List.setIfInBounds_toArray, List.set_cons_zero, List.set_cons_succ]
        refine wpAnyK_takeL (i := 1) (v := ?tvqb1) rfl (by decide) (by kernel_rfl) (by kernel_rfl) (by kernel_rfl) (by kernel_rfl) (by kernel_rfl) (fun _ _ _ h => h) (by rfl) ?tyqb1 hS0 ?trqb1
        case tyqb1 => (intro w' hSw; go_simp; try with_reducible rfl)
        simp only [Act.put, List.setIfInBounds_toArray, List.set_cons_zero, List.set_cons_succ]
        refine wpAnyK_takeL (i := 2) (v := ?tvqb2) rfl (by decide) (by kernel_rfl) (by kernel_rfl) (by kernel_rfl) (by kernel_rfl) (by kernel_rfl) (fun _ _ _ h => h) (by rfl) ?tyqb2 hS0 ?trqb2
        case tyqb2 => (intro w' hSw; go_simp; try with_reducible rfl)
        simp only [Act.put, List.setIfInBounds_toArray, List.set_cons_zero, List.set_cons_succ]
        refine wpAnyK_takeL (i := 3) (v := ?tvqb3) rfl (by decide) (by kernel_rfl) (by kernel_rfl) (by kernel_rfl) (by kernel_rfl) (by kernel_rfl) (fun _ _ _ h => h) (by rfl) ?tyqb3 hS0 ?trqb3
        case tyqb3 => (intro w' hSw; go_simp; try with_reducible rfl)
        simp only [Act.put, List.setIfInBounds_toArray, List.set_cons_zero, List.set_cons_succ]
        refine wpAnyK_takeL (i := 4) (v := ?tvqb4) rfl (by decide) (by kernel_rfl) (by kernel_rfl) (by kernel_rfl) (by kernel_rfl) (by kernel_rfl) (fun _ _ _ h => h) (by rfl) ?tyqb4 hS0 ?trqb4
        case tyqb4 => (intro w' hSw; go_simp; try with_reducible rfl)
        simp only [Act.put, List.setIfInBounds_toArray, List.set_cons_zero, List.set_cons_succ]
        refine wpAnyK_takeL (i := 5) (v := ?tvqb5) rfl (by decide) (by kernel_rfl) (by kernel_rfl) (by kernel_rfl) (by kernel_rfl) (by kernel_rfl) (fun _ _ _ h => h) (by rfl) ?tyqb5 hS0 ?trqb5
        case tyqb5 => (intro w' hSw; go_simp; try with_reducible rfl)
        simp only [Act.put, List.setIfInBounds_toArray, List.set_cons_zero, List.set_cons_succ]
        refine wpAnyK_takeL (i := 6) (v := ?tvqb6) rfl (by decide) (by kernel_rfl) (by kernel_rfl) (by kernel_rfl) (by kernel_rfl) (by kernel_rfl) (fun _ _ _ h => h) (by rfl) ?tyqb6 hS0 ?trqb6
        case tyqb6 => (intro w' hSw; go_simp; try with_reducible rfl)
        simp only [Act.put, List.setIfInBounds_toArray, List.set_cons_zero, List.set_cons_succ]
        refine wpAnyK_takeL (i := 7) (v := ?tvqb7) rfl (by decide) (by kernel_rfl) (by kernel_rfl) (by kernel_rfl) (by kernel_rfl) (by kernel_rfl) (fun _ _ _ h => h) (by rfl) ?tyqb7 hS0 ?trqb7
        case tyqb7 => (intro w' hSw; go_simp; try with_reducible rfl)
        simp only [Act.put, List.setIfInBounds_toArray, List.set_cons_zero, List.set_cons_succ]
        refine wpAnyK_takeL (i := 8) (v := ?tvqb8) rfl (by decide) (by kernel_rfl) (by kernel_rfl) (by kernel_rfl) (by kernel_rfl) (by kernel_rfl) (fun _ _ _ h => h) (by rfl) ?tyqb8 hS0 ?trqb8
        case tyqb8 => (intro w' hSw; go_simp; try with_reducible rfl)
        simp only [Act.put, List.setIfInBounds_toArray, List.set_cons_zero, List.set_cons_succ]
        refine wpAnyK_takeL (i := 9) (v := ?tvqb9) rfl (by decide) (by kernel_rfl) (by kernel_rfl) (by kernel_rfl) (by kernel_rfl) (by kernel_rfl) (fun _ _ _ h => h) (by rfl) ?tyqb9 hS0 ?trqb9
        case tyqb9 => (intro w' hSw; go_simp; try with_reducible rfl)
        simp only [Act.put, List.setIfInBounds_toArray, List.set_cons_zero, List.set_cons_succ]
        refine wpAnyK_takeL (i := 10) (v := ?tvqb10) rfl (by decide) (by kernel_rfl) (by kernel_rfl) (by kernel_rfl) (by kernel_rfl) (by kernel_rfl) (fun _ _ _ h => h) (by rfl) ?tyqb10 hS0 ?trqb10
        case tyqb10 => (intro w' hSw; go_simp; try with_reducible rfl)
        simp only [Act.put, List.setIfInBounds_toArray, List.set_cons_zero, List.set_cons_succ]
        refine wpAnyK_takeL (i := 11) (v := ?tvqb11) rfl (by decide) (by kernel_rfl) (by kernel_rfl) (by kernel_rfl) (by kernel_rfl) (by kernel_rfl) (fun _ _ _ h => h) (by rfl) ?tyqb11 hS0 ?trqb11
        case tyqb11 => (intro w' hSw; go_simp; try with_reducible rfl)
        simp only [Act.put, List.setIfInBounds_toArray, List.set_cons_zero, List.set_cons_succ]
        refine wpAnyK_one (i := 12) (by kernel_rfl) rfl (fun K hK => ?_)
        go_simp
        go_at_call 77
        refine (HWD.out _ (Below.drew HBN.out)).mono ?_
        rintro e w5 ⟨rfl, hb5⟩
        have B5 := Below.on (Below.drew (Below.refl _ W)) hb5
        have hS5 : (fun w' => RgB w' (L.bI tv) (nwK m.ths (j + 1) (insA st tv) cm k) ∧ w'.heap[wr.heap.size]? = some (.cells #[.int .i64 D1, .int .i64 D2] 54) ∧ w'.cell? ⟨L.B, 0, none⟩ = some (.slice m.ta m.ths.length m.tc)) w5 := ⟨HRW.out.stay B5, blk_stay HXX.out B5, cell_kept_below b0 B5⟩
        refine hK.out _ _ (fun _ _ => hS5) ?_
        clear hK K
        refine wpAnyK_takeL (i := 13) (v := ?tvqb13) rfl (by decide) (by kernel_rfl) (by kernel_rfl) (by kernel_rfl) (by kernel_rfl) (by kernel_rfl) (fun _ _ _ h => h) (by rfl) ?tyqb13 hS5 ?trqb13
        case tyqb13 => (intro w' hSw; go_simp; try with_reducible rfl)
        simp only [Act.put, List.setIfInBounds_toArray, List.set_cons_zero, List.set_cons_succ]
        have z0 := y2 _ hS5
        have z1 := y3 _ hS5
        have zf := fun q => hS5.1.fz q
        have HE := Hid.mk' (HFO.out w5 (Below.on HBW.out B5))
        refine wpAnyK_one (i := 14) (by kernel_rfl) rfl (fun K hK => ?_)
        go_simp
        refine hK.out _ _ (fun h => absurd rfl h) ?_
        clear hK K
        refine wpAnyK_done (by kernel_rfl) ?_ _
        go_wp2_with fail
        go_roundw
        case rel => exact ⟨k + 1, by omega, by go_num, HE.out.1, HE.out.2⟩
        case measure => simp [intOf]; omega
    · obtain rfl : k = r := by omega
      have hki : ¬ (k : Int) < (k : Int) := by omega
      have hl : nwK m.ths (j + 1) (insA st tv) cm k = newS m.ths (j + 1) (insA st tv) cm := nwK_all _ _ _ _ (by omega)
      rw [hl] at hA
      have HFIN : Hid (MgP N n k m f L st { ins := st.ins.set tv (newS m.ths (j + 1) (insA st tv) cm), chg := st.chg.set tv (chC (insA st tv) cm (chgA st tv)), mar := st.mar.set tv true, jn := st.jn.set tv (j + 1) } sd cm w (.returned (.tuple #[])) wr) := ⟨⟨_, rfl⟩, HB3.out.trans (ho.below ((HW.out.lv tv ht).2 h0) (Nat.le_trans HW.out.lt.1 HB3.out.size)), HK3.out.trans (KpO.of_only ho (.bI ht h0)), L.bI, hA, fun q hq => .inl (own_next (by omega) h0 q hq)⟩
      clear hA hl ho hc c12
      go_wp2_with fail
      exact bodyPost_ret (v := .tuple #[]) (by simp [results, Tryd.results47, go_sem, *]) rfl HFIN.out
end Go.Proofs.YtfmkjdfidenfkaaDoor
