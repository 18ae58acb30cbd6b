/- The document's own sameness of functions and modules. -/
import Derived.Test.YtboidkmnkicoeaaGreatDoorJc
namespace Go.Proofs.YtboidkmnkicoeaaGreatDoor
open Go.RowKit Go.Sort

theorem two_new (w : World) (A B : Array Value) (t : TypeId) : (∀ j v, A[j]? = some v → ((w.alloc (.cells A t)).alloc (.cells B t)).cell? ⟨w.heap.size, j, none⟩ = some v) ∧ (∀ j v, B[j]? = some v → ((w.alloc (.cells A t)).alloc (.cells B t)).cell? ⟨w.heap.size + 1, j, none⟩ = some v) := by
  refine ⟨fun j v h => cell_kept_below (new_cell w A t j v h) (Below.one (Below.refl _ _) _), fun j v h => ?_⟩
  have := new_cell (w.alloc (.cells A t)) B t j v h
  rwa [World.size_alloc] at this
theorem samF_false {x y : Fn} (h : (x.name.toList == y.name.toList) = false ∨ (x.regs == y.regs) = false ∨ (x.words == y.words) = false ∨ samPs x.params y.params = false ∨ samXs x.code y.code = false) : samF x y = false := by
  rw [samF_eq]
  rcases h with h | h | h | h | h <;> simp [h]
theorem samF_rest {x y : Fn} (h1 : (x.name.toList == y.name.toList) = true) (h2 : (x.regs == y.regs) = true) (h3 : (x.words == y.words) = true) : samF x y = (samPs x.params y.params && samXs x.code y.code) := by
  rw [samF_eq, h1, h2, h3]; rfl

set_option maxRecDepth 100000 in
set_option maxHeartbeats 8000000 in
theorem rsameFunc_any (x y : Fn) (w : World) (hx : x.In w) (hy : y.In w) : Calls Tryz.prog 21 #[x.val, y.val] w fun e w' => e = .returned (.bool (samF x y)) ∧ Below w.heap.size w w' := by
  have hb := Below.one (Below.one (Below.refl _ w) (.cells #[.string x.name, .slice x.pa x.params.length x.pc, .int .i64 x.regs, .int .i64 x.words, .slice x.ca x.code.length x.cc] 34)) (.cells #[.string y.name, .slice y.pa y.params.length y.pc, .int .i64 y.regs, .int .i64 y.words, .slice y.ca y.code.length y.cc] 34)
  obtain ⟨hX, hY⟩ := two_new w #[.string x.name, .slice x.pa x.params.length x.pc, .int .i64 x.regs, .int .i64 x.words, .slice x.ca x.code.length x.cc] #[.string y.name, .slice y.pa y.params.length y.pc, .int .i64 y.regs, .int .i64 y.words, .slice y.ca y.code.length y.cc] 34
  have a1 := hX 1 (.slice x.pa x.params.length x.pc) rfl
  have a4 := hX 4 (.slice x.ca x.code.length x.cc) rfl
  have b1 := hY 1 (.slice y.pa y.params.length y.pc) rfl
  have b4 := hY 4 (.slice y.ca y.code.length y.cc) rfl
  clear hX hY
  have HP := Hid.mk' (hx.2.2.2.1.stay hb)
  have HQ := Hid.mk' (hy.2.2.2.1.stay hb)
  have HC := Hid.mk' (hx.2.2.2.2.2.1.stay hb)
  have HD := Hid.mk' (hy.2.2.2.2.2.1.stay hb)
  have s1 := hx.2.2.2.1.1
  have s2 := hx.2.2.2.2.2.1.1
  have t1 := hy.2.2.2.1.1
  have t2 := hy.2.2.2.2.2.1.1
  have HF := Hid.mk' (samF_false (x := x) (y := y))
  have HR := Hid.mk' (samF_rest (x := x) (y := y))
  generalize samF x y = res at *
  clear hx hy
  obtain ⟨name, pa, pc, params, regs, words, ca, cc, code⟩ := x
  obtain ⟨name', pa', pc', params', regs', words', ca', cc', code'⟩ := y
  unfold Fn.val
  simp only at *
  cases e1 : (name.toList == name'.toList)
  · have hz := HF.out (.inl e1)
    subst hz
    go_enter Tryz.func21, Tryz.ntmps21
    go_wp2_with fail
    go_ret
    exact ⟨rfl, hb⟩
  cases e2 : (regs == regs')
  · have hz := HF.out (.inr (.inl e2))
    subst hz
    have e2' : (regs != regs') = true := by simp [bne, e2]
    go_enter Tryz.func21, Tryz.ntmps21
    go_wp2_with fail
    go_ret
    exact ⟨rfl, hb⟩
  have e2' : (regs != regs') = false := by simp [bne, e2]
  cases e3 : (words == words')
  · have hz := HF.out (.inr (.inr (.inl e3)))
    subst hz
    have e3' : (words != words') = true := by simp [bne, e3]
    go_enter Tryz.func21, Tryz.ntmps21
    go_wp2_with fail
    go_ret
    exact ⟨rfl, hb⟩
  have e3' : (words != words') = false := by simp [bne, e3]
  by_cases e4 : params.length = params'.length
  · by_cases e5 : code.length = code'.length
    · have hz := HR.out e1 e2 e3
      subst hz
      have HL4 := Hid.mk' e4
      have HL5 := Hid.mk' e5
      clear HF HR e2 e3
      simp only [← e4, ← e5] at hb a1 a4 b1 b4 HP HQ HC HD ⊢
      clear e4 e5 t1 t2
      go_enter Tryz.func21, Tryz.ntmps21
      go_wp2_with fail
      generalize (w.alloc (.cells #[.string name, .slice pa params.length pc, .int .i64 regs, .int .i64 words, .slice ca code.length cc] 34)).alloc (.cells #[.string name', .slice pa' params.length pc', .int .i64 regs', .int .i64 words', .slice ca' code.length cc'] 34) = W at *
      go_loopw [5] (fun t5 wr => ∃ (j nq : Nat), j ≤ params.length ∧ t5 = .int .i64 j ∧ samPs (params.drop j) (params'.drop j) = samPs params params' ∧ wr = W.drewN nq) (fun t5 _ => params.length - (intOf t5).toNat)
      case atStart => exact ⟨0, 0, Nat.zero_le _, rfl, rfl, rfl⟩
      case round =>
        obtain ⟨j, nq, hj, rfl, hcnt, rfl⟩ := hrel
        have HCN := Hid.mk' hcnt
        clear hcnt
        by_cases hlt : j < params.length
        · have hlt' : j < params'.length := by have := HL4.out; omega
          obtain ⟨b, o, rfl, c0, c1⟩ := sps_at HP.out hlt
          obtain ⟨b', o', rfl, d0, d1⟩ := sps_at HQ.out hlt'
          have hli : (j : Int) < (params.length : Int) := by omega
          have HDj := Hid.mk' (samPs_drop hlt hlt')
          generalize params[j] = x at *
          generalize params'[j] = y at *
          clear hlt'
          go_wp2_with fail
          have hq := fun w => equalIn_sp x y w
          have hg : ∀ (w : World) (op : BinOp) (a b : Operand) (xs ys : Array Value), (eqGuard op 38 a b (.agg xs) (.agg ys)).run Tryz.prog w = .ok () w := fun w op a b xs ys => run_eqGuard_agg w op 38 a b xs ys (by kernel_rfl)
          go_quiet (fail)
          clear hq hg
          cases ev : samP x y
          · rw [ev] at HDj
            go_wp2_with fail
            go_ret
            exact ⟨ret_bool (by rw [← HCN.out, HDj.out]; rfl), (hb.drewN _).drewN _⟩
          · rw [ev] at HDj
            go_wp2_with fail
            go_roundw
            case rel => exact ⟨j + 1, _, by omega, by go_num, by rw [← HCN.out, HDj.out]; rfl, rfl⟩
            case measure => simp [intOf]; omega
        · have hps : samPs params params' = true := by
            rw [← HCN.out, List.drop_eq_nil_of_le (by omega), List.drop_eq_nil_of_le (by have := HL4.out; omega)]; rfl
          have HPS := Hid.mk' hps
          have hli : ¬ ((j : Int) < (params.length : Int)) := by omega
          clear HCN hps
          go_wp2_with fail
          have hbW := hb.drewN nq
          replace a4 := cell_kept_below a4 ((Below.refl _ W).drewN nq)
          replace b4 := cell_kept_below b4 ((Below.refl _ W).drewN nq)
          replace HC := Hid.mk' (HC.out.stay ((Below.refl _ W).drewN nq))
          replace HD := Hid.mk' (HD.out.stay ((Below.refl _ W).drewN nq))
          clear a1 b1 hb HP HQ
          generalize W.drewN nq = V at *
          go_loopw [6] (fun t6 wr => ∃ (j nq : Nat), j ≤ code.length ∧ t6 = .int .i64 j ∧ samXs (code.drop j) (code'.drop j) = samXs code code' ∧ wr = V.drewN nq) (fun t6 _ => code.length - (intOf t6).toNat)
          case atStart => exact ⟨0, 0, Nat.zero_le _, rfl, rfl, rfl⟩
          case round =>
            obtain ⟨i, np, hi, rfl, hcnt, rfl⟩ := hrel
            have HCN := Hid.mk' hcnt
            clear hcnt
            by_cases hlt : i < code.length
            · have hlt' : i < code'.length := by have := HL5.out; omega
              obtain ⟨b, o, rfl, c0, c1, c2, c3, c4⟩ := iss_at HC.out hlt
              obtain ⟨b', o', rfl, d0, d1, d2, d3, d4⟩ := iss_at HD.out hlt'
              have hli : (i : Int) < (code.length : Int) := by omega
              have HDj := Hid.mk' (samXs_drop hlt hlt')
              generalize code[i] = x at *
              generalize code'[i] = y at *
              clear hlt'
              go_wp2_with fail
              have hq := fun w => equalIn_is x y w
              have hg : ∀ (w : World) (op : BinOp) (a b : Operand) (xs ys : Array Value), (eqGuard op 36 a b (.agg xs) (.agg ys)).run Tryz.prog w = .ok () w := fun w op a b xs ys => run_eqGuard_agg w op 36 a b xs ys (by kernel_rfl)
              go_quiet (fail)
              clear hq hg
              cases ev : samX x y
              · rw [ev] at HDj
                go_wp2_with fail
                go_ret
                exact ⟨ret_bool (by rw [← HCN.out, HDj.out, HPS.out]; rfl), (hbW.drewN _).drewN _⟩
              · rw [ev] at HDj
                go_wp2_with fail
                go_roundw
                case rel => exact ⟨i + 1, _, by omega, by go_num, by rw [← HCN.out, HDj.out]; rfl, rfl⟩
                case measure => simp [intOf]; omega
            · have hps : samXs code code' = true := by
                rw [← HCN.out, List.drop_eq_nil_of_le (by omega), List.drop_eq_nil_of_le (by have := HL5.out; omega)]; rfl
              have HXS := Hid.mk' hps
              have hli : ¬ ((i : Int) < (code.length : Int)) := by omega
              clear HCN hps
              go_wp2_with fail
              go_ret
              exact ⟨ret_bool (by rw [HPS.out, HXS.out]; rfl), hbW.drewN _⟩
    · have hz := HF.out (.inr (.inr (.inr (.inr (samXs_len e5)))))
      subst hz
      have e4' : ((params.length : Int) != (params'.length : Int)) = false := by simp only [bne_eq_false_iff_eq]; omega
      have e5' : ((code.length : Int) != (code'.length : Int)) = true := by simp only [bne_iff_ne]; omega
      clear e4
      go_enter Tryz.func21, Tryz.ntmps21
      go_wp2_with fail
      go_ret
      exact ⟨rfl, hb⟩
  · have hz := HF.out (.inr (.inr (.inr (.inl (samPs_len e4)))))
    subst hz
    have e4' : ((params.length : Int) != (params'.length : Int)) = true := by simp only [bne_iff_ne]; omega
    go_enter Tryz.func21, Tryz.ntmps21
    go_wp2_with fail
    go_ret
    exact ⟨rfl, hb⟩
end Go.Proofs.YtboidkmnkicoeaaGreatDoor

/- The document's own sameness of modules. -/
namespace Go.Proofs.YtboidkmnkicoeaaGreatDoor
open Go.RowKit Go.Sort

theorem samM_false {p q : Mo} (h : samI p.ths q.ths = false ∨ samFs p.funcs q.funcs = false) : samM p q = false := by
  unfold samM
  rcases h with h | h <;> simp [h]
set_option maxRecDepth 100000 in
set_option maxHeartbeats 8000000 in
theorem rsame_any (p q : Mo) (w : World) (hx : p.In w) (hy : q.In w) : Calls Tryz.prog 6 #[p.val, q.val] w fun e w' => e = .returned (.bool (samM p q)) ∧ Below w.heap.size w w' := by
  have hb := Below.one (Below.one (Below.refl _ w) (.cells #[.slice p.ta p.ths.length p.tc, .slice p.fa p.funcs.length p.fc] 25)) (.cells #[.slice q.ta q.ths.length q.tc, .slice q.fa q.funcs.length q.fc] 25)
  obtain ⟨hX, hY⟩ := two_new w #[.slice p.ta p.ths.length p.tc, .slice p.fa p.funcs.length p.fc] #[.slice q.ta q.ths.length q.tc, .slice q.fa q.funcs.length q.fc] 25
  have a0 := hX 0 (.slice p.ta p.ths.length p.tc) rfl
  have a1 := hX 1 (.slice p.fa p.funcs.length p.fc) rfl
  have b0 := hY 0 (.slice q.ta q.ths.length q.tc) rfl
  have b1 := hY 1 (.slice q.fa q.funcs.length q.fc) rfl
  clear hX hY
  have HP := Hid.mk' (hx.1.stay hb)
  have HQ := Hid.mk' (hy.1.stay hb)
  have HC := Hid.mk' (hx.2.2.1.stay hb)
  have HD := Hid.mk' (hy.2.2.1.stay hb)
  have HXI := Hid.mk' hx.2.2.2
  have HYI := Hid.mk' hy.2.2.2
  have s1 := hx.1.1
  have s2 := hx.2.2.1.1
  have t1 := hy.1.1
  have t2 := hy.2.2.1.1
  have HF := Hid.mk' (samM_false (p := p) (q := q))
  have HR : Hid (samM p q = (samI p.ths q.ths && samFs p.funcs q.funcs)) := (rfl : samM p q = _)
  generalize samM p q = res at *
  clear hx hy
  obtain ⟨ta, tc, ths, fa, fc, funcs⟩ := p
  obtain ⟨ta', tc', ths', fa', fc', funcs'⟩ := q
  unfold Mo.val
  simp only at *
  by_cases e4 : ths.length = ths'.length
  · by_cases e5 : funcs.length = funcs'.length
    · have hz := HR.out
      subst hz
      have HL4 := Hid.mk' e4
      have HL5 := Hid.mk' e5
      clear HF HR
      simp only [← e4, ← e5] at hb a0 a1 b0 b1 HP HQ HC HD ⊢
      clear e4 e5 t1 t2
      go_enter Tryz.func6, Tryz.ntmps6
      go_wp2_with fail
      generalize (w.alloc (.cells #[.slice ta ths.length tc, .slice fa funcs.length fc] 25)).alloc (.cells #[.slice ta' ths.length tc', .slice fa' funcs.length fc'] 25) = W at *
      go_loopw [5] (fun t5 wr => ∃ (j nq : Nat), j ≤ ths.length ∧ t5 = .int .i64 j ∧ samI (ths.drop j) (ths'.drop j) = samI ths ths' ∧ wr = W.drewN nq) (fun t5 _ => ths.length - (intOf t5).toNat)
      case atStart => exact ⟨0, 0, Nat.zero_le _, rfl, rfl, rfl⟩
      case round =>
        obtain ⟨j, nq, hj, rfl, hcnt, rfl⟩ := hrel
        have HCN := Hid.mk' hcnt
        clear hcnt
        by_cases hlt : j < ths.length
        · have hlt' : j < ths'.length := by have := HL4.out; omega
          obtain ⟨b, o, rfl, c0⟩ := thr_at HP.out hlt
          obtain ⟨b', o', rfl, d0⟩ := thr_at HQ.out hlt'
          have hli : (j : Int) < (ths.length : Int) := by omega
          have HDj := Hid.mk' (samI_drop hlt hlt')
          generalize ths[j] = x at *
          generalize ths'[j] = y at *
          clear hlt'
          go_wp2_with fail
          go_quiet (fail)
          cases ev : (x == y)
          · rw [ev] at HDj
            have ev' : (x != y) = true := by simp [bne, ev]
            go_wp2_with fail
            go_ret
            exact ⟨ret_bool (by rw [← HCN.out, HDj.out]; rfl), (hb.drewN _).drewN _⟩
          · rw [ev] at HDj
            have ev' : (x != y) = false := by simp [bne, ev]
            go_wp2_with fail
            go_roundw
            case rel => exact ⟨j + 1, _, by omega, by go_num, by rw [← HCN.out, HDj.out]; rfl, rfl⟩
            case measure => simp [intOf]; omega
        · have hps : samI ths ths' = true := by
            rw [← HCN.out, List.drop_eq_nil_of_le (by omega), List.drop_eq_nil_of_le (by have := HL4.out; omega)]; rfl
          have HPS := Hid.mk' hps
          have hli : ¬ ((j : Int) < (ths.length : Int)) := by omega
          clear HCN hps
          go_wp2_with fail
          have hbW := hb.drewN nq
          replace a1 := cell_kept_below a1 ((Below.refl _ W).drewN nq)
          replace b1 := cell_kept_below b1 ((Below.refl _ W).drewN nq)
          replace HC := Hid.mk' (HC.out.stay ((Below.refl _ W).drewN nq))
          replace HD := Hid.mk' (HD.out.stay ((Below.refl _ W).drewN nq))
          clear a0 b0 hb HP HQ
          generalize W.drewN nq = V at *
          go_loopw [6] (fun t6 wr => ∃ (j : Nat), j ≤ funcs.length ∧ t6 = .int .i64 j ∧ samFs (funcs.drop j) (funcs'.drop j) = samFs funcs funcs' ∧ Below V.heap.size V wr) (fun t6 _ => funcs.length - (intOf t6).toNat)
          case atStart => exact ⟨0, Nat.zero_le _, rfl, rfl, Below.refl _ _⟩
          case round =>
            obtain ⟨i, hi, rfl, hcnt, hbr⟩ := hrel
            have HCN := Hid.mk' hcnt
            clear hcnt
            have hbw := Below.on hbW hbr
            by_cases hlt : i < funcs.length
            · have hlt' : i < funcs'.length := by have := HL5.out; omega
              obtain ⟨b, o, rfl, c0, c1, c2, c3, c4⟩ := fns_at (HC.out.stay hbr) hlt
              obtain ⟨b', o', rfl, d0, d1, d2, d3, d4⟩ := fns_at (HD.out.stay hbr) hlt'
              have hli : (i : Int) < (funcs.length : Int) := by omega
              have HDj := Hid.mk' (samFs_drop hlt hlt')
              have HS : Hid (∀ w', Below w.heap.size w w' → Calls Tryz.prog 21 #[funcs[i].val, funcs'[i].val] w' fun e w'' => e = .returned (.bool (samF funcs[i] funcs'[i])) ∧ Below w'.heap.size w' w'') := fun w' hb => rsameFunc_any _ _ w' ((HXI.out _ (List.getElem_mem hlt)).stay hb) ((HYI.out _ (List.getElem_mem hlt')).stay hb)
              unfold Fn.val at HS
              generalize funcs[i] = x at *
              generalize funcs'[i] = y at *
              clear hlt'
              have hbg := Hid.mk' fun d os => Below.on hbw (below_regrown wr d os)
              have e1 := fun d os => cell_regrown (cell_kept_below a1 hbr) d os
              have e2 := fun d os => cell_regrown (cell_kept_below b1 hbr) d os
              replace c0 := fun d os => cell_regrown c0 d os
              replace c1 := fun d os => cell_regrown c1 d os
              replace c2 := fun d os => cell_regrown c2 d os
              replace c3 := fun d os => cell_regrown c3 d os
              replace c4 := fun d os => cell_regrown c4 d os
              replace d0 := fun d os => cell_regrown d0 d os
              replace d1 := fun d os => cell_regrown d1 d os
              replace d2 := fun d os => cell_regrown d2 d os
              replace d3 := fun d os => cell_regrown d3 d os
              replace d4 := fun d os => cell_regrown d4 d os
              have f1 := cell_kept_below a1 hbr
              have f2 := cell_kept_below b1 hbr
              generalize samF x y = sf at *
              go_wp2_with fail
              refine wp_region_quiet_below (by kernel_rfl) (by kernel_rfl) ?_
              repeat (go_big_quiet_step (first | (go_at_call 21; with_reducible exact Calls.regrown_of (HS.out _ (hbg.out _ _)))))
              refine wpQuiet_nil ?_
              rintro _ ⟨⟨dq, osq⟩, rfl⟩
              clear c0 c1 c2 c3 c4 d0 d1 d2 d3 d4 e1 e2 f1 f2
              cases sf
              · go_wp2_with fail
                go_ret
                exact ⟨ret_bool (by rw [← HCN.out, HDj.out, HPS.out]; rfl), hbg.out _ _⟩
              · go_wp2_with fail
                go_roundw
                case rel => exact ⟨i + 1, by omega, by go_num, by rw [← HCN.out, HDj.out]; rfl, Below.on hbr (below_regrown wr dq osq)⟩
                case measure => simp [intOf]; omega
            · have hps : samFs funcs funcs' = true := by
                rw [← HCN.out, List.drop_eq_nil_of_le (by omega), List.drop_eq_nil_of_le (by have := HL5.out; omega)]; rfl
              have HXS := Hid.mk' hps
              have hli : ¬ ((i : Int) < (funcs.length : Int)) := by omega
              have f1 := cell_kept_below a1 hbr
              clear HCN hps
              go_wp2_with fail
              go_ret
              exact ⟨ret_bool (by rw [HPS.out, HXS.out]; rfl), hbw⟩
    · have hz := HF.out (.inr (samFs_len e5))
      subst hz
      have e4' : ((ths.length : Int) != (ths'.length : Int)) = false := by simp only [bne_eq_false_iff_eq]; omega
      have e5' : ((funcs.length : Int) != (funcs'.length : Int)) = true := by simp only [bne_iff_ne]; omega
      clear e4
      go_enter Tryz.func6, Tryz.ntmps6
      go_wp2_with fail
      go_ret
      exact ⟨rfl, hb⟩
  · have hz := HF.out (.inl (samI_len e4))
    subst hz
    have e4' : ((ths.length : Int) != (ths'.length : Int)) = true := by simp only [bne_iff_ne]; omega
    go_enter Tryz.func6, Tryz.ntmps6
    go_wp2_with fail
    go_ret
    exact ⟨rfl, hb⟩
end Go.Proofs.YtboidkmnkicoeaaGreatDoor
