/- Calls whose answers the document fixes. -/
import Derived.Test.YtdnilonfgbinaaaYf
import Derived.Test.YtdnilonfgbinaaaYe
namespace Go.Proofs.Ytdnilonfgbinaaa
open Go.RowKit Go.Sort

theorem eqGuard_f (w : World) (op : BinOp) (a b : Operand) (xs ys : Array Value) : (eqGuard op 35 a b (.agg xs) (.agg ys)).run Try.prog w = .ok () w := run_eqGuard_agg w op 35 a b xs ys (by kernel_rfl)
theorem equalIn_fl (a b c a' b' c' : Int) (w : World) : (Op.equalIn 10000 35 (.agg #[.int .i64 a, .int .i64 b, .int .i64 c]) (.agg #[.int .i64 a', .int .i64 b', .int .i64 c'])).run Try.prog w = .ok (a == a' && (b == b' && c == c')) w := by
  have u3 := Try.underlying3
  have a3 := Try.isAgg3
  have z3 := Try.sizeOf3
  have u31 := Try.underlying33
  have a31 := Try.isAgg33
  have z31 := Try.sizeOf33
  have hS : Try.prog.underlying 35 = some (.struct (Try.prog.fieldsOf 35)) := by kernel_rfl
  have hp : Try.prog.stoodInHeld 35 = false := by kernel_rfl
  rw [show (10000 : Nat) = 9999 + 1 from rfl, run_equalIn_agg w 9999 35 _ _ hS hp]
  simp only [Program.fieldsOf, Try.underlying35]
  go_simp
  by_cases h1 : a = a' <;> by_cases h2 : b = b' <;> by_cases h3 : c = c' <;> simp [h1, h2, h3]
set_option maxRecDepth 100000 in
set_option maxHeartbeats 600000 in
theorem sm_last {o : Oper} (ho1 : o.op = Op.store 25 (Operand.tmp 2) (Operand.tmp 26)) (ho2 : o.dst = none) {N : Nat} {T : Array Value} {W : World} {v v' : Value} {K : Act → World → Prop} {Q : Exit → Act → World → Prop} (h1 : T[smD 17]? = some v) (h2 : T[smD 18]? = some v') (h17 : smF N 17 v W) (h18 : smF N 18 v' W) (hN : N ≤ W.heap.size)
    (hK : ∀ b0 b1 b2 b3 bf B W', v' = .pointer (some ⟨B, 0, none⟩) → N ≤ B → SmB N b0 b1 b2 b3 bf 1 sm2 W' → W'.heap[B]? = some (.cells #[.slice none 0 0, .slice (some ⟨bf, 0, none⟩) 4 4] 25) → Below N W W' → K { tmps := T, defers := [] } W') :
    Oper.wp Try.prog o { tmps := T, defers := [] } W K Q := by
  obtain ⟨od, oo, ot, op, oa, og⟩ := o
  simp only at ho1 ho2
  subst ho1 ho2
  obtain ⟨b0, b1, b2, b3, bf, rfl, hsm⟩ := smF_17 h17
  obtain ⟨B, rfl, hNB, hB⟩ := smF_18 h18
  replace h1 : T[26]? = some _ := h1
  replace h2 : T[2]? = some _ := h2
  have k0 := cell_of_obj hB (j := 0) (v := .slice none 0 0) rfl
  have k1 := cell_of_obj hB (j := 1) (v := .slice none 0 0) rfl
  have z0 := froz_no hB 0
  have z1 := froz_no hB 1
  have q1 := heap_setCell_same W B 0 _ _ (.slice none 0 0) hB
  have q2 := heap_setCell_same _ B 1 _ _ (.slice (some ⟨bf, 0, none⟩) 4 4) q1
  have HK := Hid.mk' hK
  have HS := Hid.mk' hsm
  clear hK hsm h17 h18
  go_simp
  have hg : W.grownBy ((W.setCell ⟨B, 0, none⟩ (.slice none 0 0)).setCell ⟨B, 1, none⟩ (.slice (some ⟨bf, 0, none⟩) 4 4)) (some B) := ⟨rfl, rfl, rfl, by simp, fun k _ hk => by
    have hne : k ≠ B := fun e => hk (by rw [e])
    exact (heap_setCell_other _ _ _ _ hne).trans (heap_setCell_other _ _ _ _ hne)⟩
  have hbl : ∀ {k : Nat} {cs : Array Value} {T' : TypeId}, T' ≠ 25 → W.heap[k]? = some (.cells cs T') → ((W.setCell ⟨B, 0, none⟩ (.slice none 0 0)).setCell ⟨B, 1, none⟩ (.slice (some ⟨bf, 0, none⟩) 4 4)).heap[k]? = some (.cells cs T') := fun {k cs T'} hT h => (hg.block k (Array.getElem?_eq_some_iff.1 h).1 fun e => by
    have e := Option.some.inj e
    subst e
    rw [hB] at h
    cases h
    exact hT rfl).trans h
  have hS := HS.out
  exact HK.out b0 b1 b2 b3 bf B _ rfl hNB ⟨⟨hS.c0.1, hbl (by decide) hS.c0.2⟩, ⟨hS.c1.1, hbl (by decide) hS.c1.2⟩, ⟨hS.c2.1, hbl (by decide) hS.c2.2⟩, ⟨hS.c3.1, hbl (by decide) hS.c3.2⟩, hS.hf, hbl (by decide) hS.f⟩ (by simpa using q2) ((Below.refl N W).grown hg hN (fun k e => by cases e; exact hNB))
set_option maxRecDepth 100000 in
set_option maxHeartbeats 600000 in
theorem sm_last2 {o : Oper} (ho1 : o.op = Op.store 40 (Operand.tmp 58) (Operand.tmp 56)) (ho2 : o.dst = none) {N N' B b0 b1 b2 b3 bf : Nat} {T : Array Value} {W : World} {v v' : Value} {K : Act → World → Prop} {Q : Exit → Act → World → Prop} (h1 : T[smE 4]? = some v) (h2 : T[smE 6]? = some v') (h4 : smG N' B bf 4 v W) (h6 : smG N' B bf 6 v' W)
    (hsm : SmB N b0 b1 b2 b3 bf 1 sm2 W) (hNN : N ≤ N') (hB : W.heap[B]? = some (.cells #[.slice none 0 0, .slice (some ⟨bf, 0, none⟩) 4 4] 25))
    (hK : ∀ bn W', SmB N b0 b1 bn b3 bf 2 smN W' → W'.heap[B]? = some (.cells #[.slice none 0 0, .slice (some ⟨bf, 0, none⟩) 4 4] 25) → W.grownBy W' (some bf) → K { tmps := T, defers := [] } W') :
    Oper.wp Try.prog o { tmps := T, defers := [] } W K Q := by
  obtain ⟨od, oo, ot, op, oa, og⟩ := o
  simp only at ho1 ho2
  subst ho1 ho2
  obtain ⟨bn, rfl, hbn⟩ := h4
  obtain rfl : v' = .pointer (some ⟨bf, 14, none⟩) := h6
  replace h1 : T[56]? = some _ := h1
  replace h2 : T[58]? = some _ := h2
  have k0 := cell_of_obj hsm.f (j := 14) (v := .slice (some ⟨b2, 0, none⟩) 1 1) rfl
  have z0 := froz_no hsm.f 14
  have q1 := heap_setCell_same W bf 14 _ _ (.slice (some ⟨bn, 0, none⟩) 2 2) hsm.f
  have HK := Hid.mk' hK
  have HS := Hid.mk' hsm
  have HBN := Hid.mk' hbn
  clear hK hsm hbn
  go_simp
  have hg : W.grownBy (W.setCell ⟨bf, 14, none⟩ (.slice (some ⟨bn, 0, none⟩) 2 2)) (some bf) := ⟨rfl, rfl, rfl, by simp, fun k _ hk => by
    have hne : k ≠ bf := fun e => hk (by rw [e])
    exact heap_setCell_other _ _ _ _ hne⟩
  have hS := HS.out
  have hbl : ∀ {k : Nat} {cs : Array Value} {T' : TypeId}, T' ≠ 42 → W.heap[k]? = some (.cells cs T') → (W.setCell ⟨bf, 14, none⟩ (.slice (some ⟨bn, 0, none⟩) 2 2)).heap[k]? = some (.cells cs T') := fun {k cs T'} hT h => (hg.block k (Array.getElem?_eq_some_iff.1 h).1 fun e => by
    have e := Option.some.inj e
    subst e
    rw [hS.f] at h
    cases h
    exact hT rfl).trans h
  exact HK.out bn _ ⟨⟨hS.c0.1, hbl (by decide) hS.c0.2⟩, ⟨hS.c1.1, hbl (by decide) hS.c1.2⟩, ⟨Nat.le_trans hNN HBN.out.1, hbl (by decide) HBN.out.2⟩, ⟨hS.c3.1, hbl (by decide) hS.c3.2⟩, hS.hf, q1.trans rfl⟩ (hbl (by decide) hB) hg
set_option maxRecDepth 100000 in
set_option maxHeartbeats 1600000 in
theorem fixed_any (w : World) : Calls Try.prog 10 #[] w fun e w' => e = .returned (.bool true) ∧ Below w.heap.size w w' := by
  have HF2 := Hid.mk' (func0_any 2 w)
  go_enter Try.func10, Try.ntmps10
  go_wp2_with fail
  refine HF2.out.mono ?_
  rintro e w1 ⟨rfl, hb1⟩
  unfold cI Is.val
  simp only
  go_upto_region 2 with fail
  have HG := Hid.mk' (heap_alloc_new w1 (.cells #[.int .i64 19, .int .i64 0, .int .i64 0, .int .i64 0, .int .i64 2] 44))
  have HB2 := Hid.mk' (Below.one hb1 (.cells #[.int .i64 19, .int .i64 0, .int .i64 0, .int .i64 0, .int .i64 2] 44))
  clear hb1 HF2
  generalize w1.heap.size = G at *
  generalize w1.alloc (.cells #[.int .i64 19, .int .i64 0, .int .i64 0, .int .i64 0, .int .i64 2] 44) = w2 at *
  refine wp_region_any (by kernel_rfl) ?_
  simp only [List.size_toArray, List.length_cons, List.length_nil, Nat.reduceAdd]
  rw [← List.toArray_replicate]
  refine region_facts 19 smD (smF w2.heap.size) smP _ _ ?hdst ?hinj ?hdl (by kernel_rfl) (by kernel_rfl) (by kernel_rfl) rfl (fun i v w w' hi h hb => smF_stay i v w w' hi h hb) ?hop ?hlast 20 (List.replicate 20 false) _ _ rfl FaS.start
  case hdst =>
    intro i hi
    match i, hi with
    | 0, _ | 1, _ | 2, _ | 3, _ | 4, _ | 5, _ | 6, _ | 7, _ | 8, _ | 9, _ | 10, _ | 11, _ | 12, _ | 13, _ | 14, _ | 15, _ | 16, _ | 17, _ | 18, _ => exact ⟨_, rfl, rfl, rfl⟩
    | i + 19, h => omega
  case hinj =>
    intro j k hj hk h e
    unfold smD at e
    split at e <;> split at e <;> omega
  case hdl =>
    intro i hi
    show smD i < 75
    unfold smD
    split <;> omega
  case hop =>
    intro i hi o ho T W hold hd hb K hK
    have hNW : w2.heap.size ≤ W.heap.size := hb.size
    have hGW := blk_stay (show w2.drew.heap[G]? = some _ from HG.out) hb
    have h1 : T[1]? = some (.pointer (some ⟨G, 0, none⟩)) := hold 1 (fun j hj e => by unfold smD at e; split at e <;> omega)
    have c0 := cell_of_obj hGW (j := 0) (v := .int .i64 19) rfl
    have c1 := cell_of_obj hGW (j := 1) (v := .int .i64 0) rfl
    have c2 := cell_of_obj hGW (j := 2) (v := .int .i64 0) rfl
    have c3 := cell_of_obj hGW (j := 3) (v := .int .i64 0) rfl
    have c4 := cell_of_obj hGW (j := 4) (v := .int .i64 2) rfl
    have hF1 := func0_any 1 W
    match i, hi with
    | 0, _ =>
      cases ho
      clear hd
      go_simp
      exact hK _ _ rfl (Below.refl _ _)
    | 1, _ =>
      cases ho
      clear hd
      go_simp
      go_at_call 19
      refine hF1.mono ?_
      rintro e w' ⟨rfl, hb'⟩
      exact hK _ _ rfl hb'
    | 2, _ =>
      cases ho
      clear hd
      go_simp
      exact hK _ _ rfl (Below.refl _ _)
    | 3, _ =>
      cases ho
      obtain ⟨v0, t0, f0⟩ := hd 0 (by decide)
      obtain ⟨v1, t1, f1⟩ := hd 1 (by decide)
      obtain ⟨v2, t2, f2⟩ := hd 2 (by decide)
      obtain rfl : v0 = (cI 2).val := f0
      obtain rfl : v1 = (cI 1).val := f1
      obtain rfl : v2 = zI.val := f2
      replace t0 : T[9]? = some _ := t0
      replace t1 : T[10]? = some _ := t1
      replace t2 : T[11]? = some _ := t2
      clear hd hF1
      simp only [cI, zI, Is.val] at t0 t1 t2
      go_simp
      exact hK _ _ ⟨_, rfl, hNW, heap_alloc_new W _⟩ (Below.one (Below.refl _ W) _)
    | 4, _ =>
      cases ho
      obtain ⟨v0, t0, b, rfl, hcb⟩ := hd 3 (by decide)
      replace t0 : T[12]? = some _ := t0
      clear hd hF1
      go_simp
      exact hK _ _ ⟨b, rfl, hcb⟩ (Below.refl _ _)
    | 5, _ =>
      cases ho
      clear hd
      go_simp
      exact hK _ _ rfl (Below.refl _ _)
    | 6, _ =>
      cases ho
      clear hd
      go_simp
      exact hK _ _ rfl (Below.refl _ _)
    | 7, _ =>
      cases ho
      obtain ⟨v5, t5, f5⟩ := hd 5 (by decide)
      obtain rfl : v5 = (cI 2).val := f5
      replace t5 : T[14]? = some _ := t5
      obtain ⟨v6, t6, f6⟩ := hd 6 (by decide)
      obtain rfl : v6 = zI.val := f6
      replace t6 : T[15]? = some _ := t6
      clear hd hF1
      simp only [cI, zI, Is.val] at t5 t6
      go_simp
      exact hK _ _ ⟨_, rfl, hNW, heap_alloc_new W _⟩ (Below.one (Below.refl _ W) _)
    | 8, _ =>
      cases ho
      obtain ⟨v0, t0, b, rfl, hcb⟩ := hd 7 (by decide)
      replace t0 : T[16]? = some _ := t0
      clear hd hF1
      go_simp
      exact hK _ _ ⟨b, rfl, hcb⟩ (Below.refl _ _)
    | 9, _ =>
      cases ho
      clear hd
      go_simp
      exact hK _ _ rfl (Below.refl _ _)
    | 10, _ =>
      cases ho
      obtain ⟨v9, t9, f9⟩ := hd 9 (by decide)
      obtain rfl : v9 = zI.val := f9
      replace t9 : T[18]? = some _ := t9
      clear hd hF1
      simp only [zI, Is.val] at t9
      go_simp
      exact hK _ _ ⟨_, rfl, hNW, heap_alloc_new W _⟩ (Below.one (Below.refl _ W) _)
    | 11, _ =>
      cases ho
      obtain ⟨v0, t0, b, rfl, hcb⟩ := hd 10 (by decide)
      replace t0 : T[19]? = some _ := t0
      clear hd hF1
      go_simp
      exact hK _ _ ⟨b, rfl, hcb⟩ (Below.refl _ _)
    | 12, _ =>
      cases ho
      clear hd
      go_simp
      exact hK _ _ rfl (Below.refl _ _)
    | 13, _ =>
      cases ho
      clear hd
      go_simp
      exact hK _ _ rfl (Below.refl _ _)
    | 14, _ =>
      cases ho
      obtain ⟨v12, t12, f12⟩ := hd 12 (by decide)
      obtain rfl : v12 = zI.val := f12
      replace t12 : T[21]? = some _ := t12
      obtain ⟨v13, t13, f13⟩ := hd 13 (by decide)
      obtain rfl : v13 = (cI 2).val := f13
      replace t13 : T[22]? = some _ := t13
      clear hd hF1
      simp only [cI, zI, Is.val] at t12 t13
      go_simp
      exact hK _ _ ⟨_, rfl, hNW, heap_alloc_new W _⟩ (Below.one (Below.refl _ W) _)
    | 15, _ =>
      cases ho
      obtain ⟨v0, t0, b, rfl, hcb⟩ := hd 14 (by decide)
      replace t0 : T[23]? = some _ := t0
      clear hd hF1
      go_simp
      exact hK _ _ ⟨b, rfl, hcb⟩ (Below.refl _ _)
    | 16, _ =>
      cases ho
      obtain ⟨v0, t0, b0, rfl, k0⟩ := hd 4 (by decide)
      obtain ⟨v1, t1, b1, rfl, k1⟩ := hd 8 (by decide)
      obtain ⟨v2, t2, b2, rfl, k2⟩ := hd 11 (by decide)
      obtain ⟨v3, t3, b3, rfl, k3⟩ := hd 15 (by decide)
      replace t0 : T[13]? = some _ := t0
      replace t1 : T[17]? = some _ := t1
      replace t2 : T[20]? = some _ := t2
      replace t3 : T[24]? = some _ := t3
      clear hd hF1
      simp only [fV] at t0 t1 t2 t3
      go_simp
      have hbl := Below.one (Below.refl _ W) (fsB b0 b1 b2 b3 1)
      exact hK _ _ ⟨b0, b1, b2, b3, _, rfl, k0.stay hbl, k1.stay hbl, k2.stay hbl, k3.stay hbl, hNW, heap_alloc_new W _⟩ hbl
    | 17, _ =>
      cases ho
      obtain ⟨v0, t0, b0, b1, b2, b3, bf, rfl, hsm⟩ := hd 16 (by decide)
      replace t0 : T[25]? = some _ := t0
      clear hd hF1
      go_simp
      exact hK _ _ ⟨b0, b1, b2, b3, bf, rfl, hsm⟩ (Below.refl _ _)
    | 18, _ =>
      cases ho
      clear hd hF1
      go_simp
      exact hK _ _ ⟨_, rfl, hNW, heap_alloc_new W _⟩ (Below.one (Below.refl _ W) _)
    | i + 19, h => omega
  case hlast =>
    intro o ho
    obtain ⟨ho1, ho2, ho3⟩ : o.op = Op.store 25 (Operand.tmp 2) (Operand.tmp 26) ∧ o.dst = none ∧ o.guard = none := by
      cases ho
      exact ⟨rfl, rfl, rfl⟩
    clear ho
    refine And.intro ho3 ?_
    intro vs W hF hb
    have hdl : ∀ j, j < 19 → smD j < 75 := fun j hj => by unfold smD; split <;> omega
    have hij : ∀ j k, j < 19 → k < 19 → j ≠ k → smD j ≠ smD k := fun j k hj hk hne e => by unfold smD at e; split at e <;> split at e <;> omega
    refine sm_last ho1 ho2 (N := w2.heap.size) (setV_new smD vs _ 19 (i := 17) (by decide) hdl hij) (setV_new smD vs _ 19 (i := 18) (by decide) hdl hij) (hF 17 (by decide)) (hF 18 (by decide)) hb.size ?_
    clear ho1 ho2 ho3 hF hdl hij
    intro b0 b1 b2 b3 bf B W3 e18 hNB hsm hB hb3
    simp only [setV, smD, Nat.reduceLT, Nat.reduceAdd, ite_true, ite_false, e18, List.setIfInBounds_toArray, List.set_cons_succ, List.set_cons_zero]
    generalize vs 0 = v0
    generalize vs 1 = v1
    generalize vs 2 = v2
    generalize vs 3 = v3
    generalize vs 4 = v4
    generalize vs 5 = v5
    generalize vs 6 = v6
    generalize vs 7 = v7
    generalize vs 8 = v8
    generalize vs 9 = v9
    generalize vs 10 = v10
    generalize vs 11 = v11
    generalize vs 12 = v12
    generalize vs 13 = v13
    generalize vs 14 = v14
    generalize vs 15 = v15
    generalize vs 16 = v16
    generalize vs 17 = v17
    clear e18 vs
    have HB3 : Hid (Below w.heap.size w W3) := ((Below.drew HB2.out).trans (hb.mono HB2.out.size)).trans (hb3.mono HB2.out.size)
    have HSM := Hid.mk' hsm
    have HBM := Hid.mk' hB
    have HNB := Hid.mk' hNB
    have HSZ : Hid (w.heap.size ≤ w2.heap.size) := HB2.out.size
    clear hb3 hsm hNB HB2 HG hB hb W
    have hmi : (smM b0 b1 b2 b3 bf sm2).In W3 := HSM.out.mo (by decide) (fun x hx => by
      simp only [sm2, List.mem_cons, List.not_mem_nil, or_false] at hx
      subst hx
      exact ok_zI)
    have HMI := Hid.mk' hmi
    have HOR : Hid (∀ w', AllIn W3 w' → Calls Try.prog 12 #[.agg #[.slice none 0 0, .slice (some ⟨bf, 0, none⟩) 4 4]] w' (OrP (smM b0 b1 b2 b3 bf sm2) w')) := fun w' ha => order_any W3 _ w' hmi ha
    have HOF : Hid (∀ (z : Int) w', AllIn W3 w' → Calls Try.prog 7 #[.agg #[.slice none 0 0, .slice (some ⟨bf, 0, none⟩) 4 4], .int .i64 z] w' (OfP (smM b0 b1 b2 b3 bf sm2) z w')) := fun z w' ha => of_any W3 _ z w' hmi ha
    have HAA : Hid (∀ w', Below W3.heap.size W3 w' → AllIn W3 w') := fun w' hb k o hk => blk_stay hk hb
    have x0 := cell_of_obj HBM.out (j := 0) (v := .slice none 0 0) rfl
    have x1 := cell_of_obj HBM.out (j := 1) (v := .slice (some ⟨bf, 0, none⟩) 4 4) rfl
    clear hmi
    go_wp2_with fail
    refine (HOR.out W3 (fun k o hk => hk)).mono ?_
    rintro e w4 ⟨vl, os, k, f, i, rfl, hot, on4, bb4⟩
    obtain ⟨rfl, rfl, rfl, rfl⟩ := hot.one (.inr (.inl ⟨by show 4 ≤ 32; decide, sm_ord b0 b1 b2 b3 bf, rfl, rfl, rfl⟩))
    obtain ⟨al, cl, rfl⟩ := gown_form on4
    have HB5 := Hid.mk' (Below.one bb4 (.cells #[.int .i64 0, .int .i64 0, .int .i64 0] 35))
    have HX5 := Hid.mk' (heap_alloc_new w4 (.cells #[.int .i64 0, .int .i64 0, .int .i64 0] 35))
    have HL5 := Hid.mk' ((own_lst on4).stay (Below.one (Below.refl _ w4) (.cells #[.int .i64 0, .int .i64 0, .int .i64 0] 35)))
    clear hot on4 bb4 HOR x0 x1
    simp only [List.length_cons, List.length_nil, Nat.reduceAdd] at *
    go_upto_region 4 with fail
    generalize w4.alloc (.cells #[.int .i64 0, .int .i64 0, .int .i64 0] 35) = w5 at *
    generalize w4.heap.size = F at *
    have HSI : Hid (∀ (xs ys : List Nat) a c a' c' w, Lst w a (xs.map nV) → Lst w a' (ys.map nV) → xs.length ≤ 1000000 → Calls Try.prog 11 #[.slice a xs.length c, .slice a' ys.length c'] w fun e w' => e = .returned (.bool (decide (xs = ys))) ∧ Below w.heap.size w w') := fun xs ys a c a' c' w h1 h2 h3 => sameInts_any xs ys a a' c c' w h1 h2 h3
    have hq1 := eqGuard_f
    have hq2 := equalIn_fl
    have HA6 := Hid.mk' (Below.one (Below.refl _ w5) (.cells #[.int .i64 2, .int .i64 1, .int .i64 0, .int .i64 3] 3))
    have HS1 := Hid.mk' (HSI.out [2, 1, 0, 3] [2, 1, 0, 3] al cl (some ⟨w5.heap.size, 0, none⟩) 4 _ (HL5.out.stay HA6.out) (lst_new w5 #[.int .i64 2, .int .i64 1, .int .i64 0, .int .i64 3] 3 _ rfl) (by decide))
    simp only [List.length_cons, List.length_nil, Nat.reduceAdd, decide_true] at HS1
    go_wp2_with fail
    refine HS1.out.mono ?_
    rintro e w6 ⟨rfl, bb6⟩
    have HB56 := Hid.mk' (Below.on HA6.out bb6)
    have hf6 := blk_stay HX5.out HB56.out
    have y0 := cell_of_obj hf6 (j := 0) (v := .int .i64 0) rfl
    have y1 := cell_of_obj hf6 (j := 1) (v := .int .i64 0) rfl
    have y2 := cell_of_obj hf6 (j := 2) (v := .int .i64 0) rfl
    have HB36 := Hid.mk' (Below.on HB5.out HB56.out)
    have hm6 := blk_stay HBM.out HB36.out
    have x0 := cell_of_obj hm6 (j := 0) (v := .slice none 0 0) rfl
    have x1 := cell_of_obj hm6 (j := 1) (v := .slice (some ⟨bf, 0, none⟩) 4 4) rfl
    clear hf6 hm6 bb6 HS1 HA6
    go_wp2_with fail
    refine (HOF.out 0 w6 (HAA.out _ HB36.out)).mono ?_
    rintro e w7 ⟨v7, ks, rfl, hof, on7, bb7⟩
    obtain rfl := hof.one (sm_of0 b0 b1 b2 b3 bf)
    obtain ⟨a7, c7, rfl⟩ := gown_form on7
    have HB37 := Hid.mk' (Below.on HB36.out bb7)
    have HA8 := Hid.mk' (Below.one (Below.refl _ w7) (.cells #[.int .i64 1, .int .i64 2] 3))
    have HS2 := Hid.mk' (HSI.out [1, 2] [1, 2] a7 c7 (some ⟨w7.heap.size, 0, none⟩) 2 _ ((own_lst on7).stay HA8.out) (lst_new w7 #[.int .i64 1, .int .i64 2] 3 _ rfl) (by decide))
    clear hof on7 bb7 x0 x1 y0 y1 y2 hq1 hq2
    simp only [List.length_cons, List.length_nil, Nat.reduceAdd, decide_true] at HS2 ⊢
    go_wp2_with fail
    refine HS2.out.mono ?_
    rintro e w8 ⟨rfl, bb8⟩
    have HB38 := Hid.mk' (Below.on HB37.out (Below.on HA8.out bb8))
    have hm8 := blk_stay HBM.out HB38.out
    have x0 := cell_of_obj hm8 (j := 0) (v := .slice none 0 0) rfl
    have x1 := cell_of_obj hm8 (j := 1) (v := .slice (some ⟨bf, 0, none⟩) 4 4) rfl
    clear hm8 bb8 HS2 HA8
    go_wp2_with fail
    refine (HOF.out 3 w8 (HAA.out _ HB38.out)).mono ?_
    rintro e w9 ⟨v9', ks, rfl, hof, on9, bb9⟩
    obtain rfl := hof.one (sm_of3 b0 b1 b2 b3 bf)
    obtain ⟨a9, c9, rfl⟩ := gown_form on9
    have HB39 := Hid.mk' (Below.on HB38.out bb9)
    clear hof on9 bb9 x0 x1 HSI HOF
    simp only [List.length_nil] at *
    go_upto_region 5 with fail
    have HS9 := Hid.mk' (HSM.out.stay HB39.out)
    have HM9 := Hid.mk' (blk_stay HBM.out HB39.out)
    have HW9 : Hid (Below w.heap.size w w9) := HB3.out.trans (HB39.out.mono HB3.out.size)
    have HN9 : Hid (w2.heap.size ≤ w9.heap.size) := Nat.le_of_lt (Nat.lt_of_le_of_lt HS9.out.hf (Array.getElem?_eq_some_iff.1 HS9.out.f).1)
    have HWF : Hid (w.heap.size ≤ bf) := Nat.le_trans HSZ.out HS9.out.hf
    clear HB39 HB38 HB37 HB36 HB56 HB5 HX5 HL5 HB3 HSM HBM HMI HAA
    refine wp_region_any (by kernel_rfl) ?_
    simp only [List.size_toArray, List.length_cons, List.length_nil, Nat.reduceAdd]
    rw [← List.toArray_replicate]
    refine region_facts 7 smE (smG w9.heap.size B bf) smQ _ _ ?hdst ?hinj ?hdl (by kernel_rfl) (by kernel_rfl) (by kernel_rfl) rfl (fun i v w w' hi h hb => smG_stay i v w w' hi h hb) ?hop ?hlast 8 (List.replicate 8 false) _ _ rfl FaS.start
    case hdst =>
      intro i hi
      match i, hi with
      | 0, _ | 1, _ | 2, _ | 3, _ | 4, _ | 5, _ | 6, _ => exact ⟨_, rfl, rfl, rfl⟩
      | i + 7, h => omega
    case hinj =>
      intro j k hj hk h e
      unfold smE at e
      omega
    case hdl =>
      intro i hi
      show smE i < 75
      unfold smE
      omega
    case hop =>
      intro i hi o ho T W hold hd hb K hK
      have hNW : w9.heap.size ≤ W.heap.size := hb.size
      have hMW := blk_stay (show w9.drew.heap[B]? = some _ from HM9.out) hb
      have h1 : T[2]? = some (.pointer (some ⟨B, 0, none⟩)) := hold 2 (fun j hj e => by unfold smE at e; omega)
      have c1 := cell_of_obj hMW (j := 1) (v := .slice (some ⟨bf, 0, none⟩) 4 4) rfl
      have hF1 := func0_any 1 W
      match i, hi with
      | 0, _ =>
        cases ho
        clear hd
        go_simp
        exact hK _ _ rfl (Below.refl _ _)
      | 1, _ =>
        cases ho
        obtain ⟨v0, t0, f0⟩ := hd 0 (by decide)
        obtain rfl : v0 = .pointer (some ⟨B, 1, none⟩) := f0
        replace t0 : T[52]? = some _ := t0
        clear hd hF1
        go_simp
        exact hK _ _ rfl (Below.refl _ _)
      | 2, _ =>
        cases ho
        clear hd
        go_simp
        go_at_call 19
        refine hF1.mono ?_
        rintro e w' ⟨rfl, hb'⟩
        exact hK _ _ rfl hb'
      | 3, _ =>
        cases ho
        clear hd
        go_simp
        exact hK _ _ rfl (Below.refl _ _)
      | 4, _ =>
        cases ho
        obtain ⟨v0, t0, f0⟩ := hd 2 (by decide)
        obtain ⟨v1, t1, f1⟩ := hd 3 (by decide)
        obtain rfl : v0 = (cI 1).val := f0
        obtain rfl : v1 = zI.val := f1
        replace t0 : T[54]? = some _ := t0
        replace t1 : T[55]? = some _ := t1
        clear hd hF1
        simp only [cI, zI, Is.val] at t0 t1
        go_simp
        exact hK _ _ ⟨_, rfl, hNW, heap_alloc_new W _⟩ (Below.one (Below.refl _ W) _)
      | 5, _ =>
        cases ho
        obtain ⟨v0, t0, f0⟩ := hd 1 (by decide)
        obtain rfl : v0 = .slice (some ⟨bf, 0, none⟩) 4 4 := f0
        replace t0 : T[53]? = some _ := t0
        clear hd hF1
        go_simp
        exact hK _ _ rfl (Below.refl _ _)
      | 6, _ =>
        cases ho
        obtain ⟨v0, t0, f0⟩ := hd 5 (by decide)
        obtain rfl : v0 = .pointer (some ⟨bf, 10, none⟩) := f0
        replace t0 : T[57]? = some _ := t0
        clear hd hF1
        go_simp
        exact hK _ _ rfl (Below.refl _ _)
      | i + 7, h => omega
    case hlast =>
      intro o ho
      obtain ⟨ho1, ho2, ho3⟩ : o.op = Op.store 40 (Operand.tmp 58) (Operand.tmp 56) ∧ o.dst = none ∧ o.guard = none := by
        cases ho
        exact ⟨rfl, rfl, rfl⟩
      clear ho
      refine And.intro ho3 ?_
      intro vs W hF hb
      have hdl : ∀ j, j < 7 → smE j < 75 := fun j hj => by unfold smE; omega
      have hij : ∀ j k, j < 7 → k < 7 → j ≠ k → smE j ≠ smE k := fun j k hj hk hne e => by unfold smE at e; omega
      have hb' : Below w9.heap.size w9 W := (Below.drew (Below.refl _ w9)).trans hb
      refine sm_last2 ho1 ho2 (setV_new smE vs _ 7 (i := 4) (by decide) hdl hij) (setV_new smE vs _ 7 (i := 6) (by decide) hdl hij) (hF 4 (by decide)) (hF 6 (by decide)) (HS9.out.stay hb') HN9.out (blk_stay HM9.out hb') ?_
      have hwW : Below w.heap.size w W := HW9.out.trans (hb'.mono HW9.out.size)
      clear ho1 ho2 ho3 hF hdl hij
      intro bn W10 hsm hB hg10
      simp only [setV, smE, Nat.reduceAdd, List.setIfInBounds_toArray, List.set_cons_succ, List.set_cons_zero]
      generalize vs 0 = y0
      generalize vs 1 = y1
      generalize vs 2 = y2
      generalize vs 3 = y3
      generalize vs 4 = y4
      generalize vs 5 = y5
      generalize vs 6 = y6
      clear vs
      have HB10 : Hid (Below w.heap.size w W10) := hwW.grown hg10 hwW.size (fun k e => by have := Option.some.inj e; have := HWF.out; omega)
      have hmi : (smM b0 b1 bn b3 bf smN).In W10 := hsm.mo (by decide) (fun x hx => by
        simp only [smN, List.mem_cons, List.not_mem_nil, or_false] at hx
        rcases hx with rfl | rfl
        · exact ok_cI (by decide)
        · exact ok_zI)
      have HOR : Hid (Calls Try.prog 12 #[.agg #[.slice none 0 0, .slice (some ⟨bf, 0, none⟩) 4 4]] W10 (OrP (smM b0 b1 bn b3 bf smN) W10)) := order_any W10 _ W10 hmi (fun k o hk => hk)
      have x0 := cell_of_obj hB (j := 0) (v := .slice none 0 0) rfl
      have x1 := cell_of_obj hB (j := 1) (v := .slice (some ⟨bf, 0, none⟩) 4 4) rfl
      clear hmi hsm hB hg10 hb hb' hwW HS9 HM9 HW9
      go_wp2_with fail
      refine HOR.out.mono ?_
      rintro e w11 ⟨vl, os, k, f, i, rfl, hot, on11, bb11⟩
      obtain ⟨rfl, rfl, rfl, rfl⟩ := hot.one (.inr (.inr ⟨by show 4 ≤ 32; decide, rfl, rfl, 1, 0, rfl, rfl, sm_cyc b0 b1 bn b3 bf⟩))
      obtain ⟨a11, c11, rfl⟩ := gown_form on11
      have HB11 : Hid (Below w.heap.size w w11) := HB10.out.trans (bb11.mono HB10.out.size)
      clear hot on11 bb11 HOR x0 x1
      simp only [List.length_nil] at *
      have hq1 := eqGuard_f
      have hq2 := equalIn_fl
      go_wp2_with fail
      go_ret
      exact ⟨rfl, Below.one HB11.out _⟩
end Go.Proofs.Ytdnilonfgbinaaa
