/- The document's own sameness of functions and modules. -/
import Derived.Test.YtdnilonfgbinaaaCf
namespace Go.Proofs.Ytdnilonfgbinaaa
open Go.RowKit Go.Sort

theorem two_new (w : World) (A B : Array Value) (t : TypeId) : (∀ j v, A[j]? = some v → ((w.alloc (.cells A t)).alloc (.cells B t)).cell? ⟨w.heap.size, j, none⟩ = some v) ∧ (∀ j v, B[j]? = some v → ((w.alloc (.cells A t)).alloc (.cells B t)).cell? ⟨w.heap.size + 1, j, none⟩ = some v) := by
  refine ⟨fun j v h => cell_kept_below (new_cell w A t j v h) (Below.one (Below.refl _ _) _), fun j v h => ?_⟩
  have := new_cell (w.alloc (.cells A t)) B t j v h
  rwa [World.size_alloc] at this
theorem samF_false {x y : Fn} (h : (x.name.toList == y.name.toList) = false ∨ (x.regs == y.regs) = false ∨ (x.words == y.words) = false ∨ samPs x.params y.params = false ∨ samXs x.code y.code = false) : samF x y = false := by
  rw [samF_eq]
  rcases h with h | h | h | h | h <;> simp [h]
theorem samF_rest {x y : Fn} (h1 : (x.name.toList == y.name.toList) = true) (h2 : (x.regs == y.regs) = true) (h3 : (x.words == y.words) = true) : samF x y = (samPs x.params y.params && samXs x.code y.code) := by
  rw [samF_eq, h1, h2, h3]; rfl

set_option maxRecDepth 100000 in
set_option maxHeartbeats 8000000 in
theorem rsameFunc_any (x y : Fn) (w : World) (hx : x.In w) (hy : y.In w) : Calls Try.prog 18 #[x.val, y.val] w fun e w' => e = .returned (.bool (samF x y)) ∧ Below w.heap.size w w' := by
  have hb := Below.one (Below.one (Below.refl _ w) (.cells #[.string x.name, .slice x.pa x.params.length x.pc, .int .i64 x.regs, .int .i64 x.words, .slice x.ca x.code.length x.cc] 42)) (.cells #[.string y.name, .slice y.pa y.params.length y.pc, .int .i64 y.regs, .int .i64 y.words, .slice y.ca y.code.length y.cc] 42)
  obtain ⟨hX, hY⟩ := two_new w #[.string x.name, .slice x.pa x.params.length x.pc, .int .i64 x.regs, .int .i64 x.words, .slice x.ca x.code.length x.cc] #[.string y.name, .slice y.pa y.params.length y.pc, .int .i64 y.regs, .int .i64 y.words, .slice y.ca y.code.length y.cc] 42
  have a1 := hX 1 (.slice x.pa x.params.length x.pc) rfl
  have a4 := hX 4 (.slice x.ca x.code.length x.cc) rfl
  have b1 := hY 1 (.slice y.pa y.params.length y.pc) rfl
  have b4 := hY 4 (.slice y.ca y.code.length y.cc) rfl
  clear hX hY
  have HP := Hid.mk' (hx.2.2.2.1.stay hb)
  have HQ := Hid.mk' (hy.2.2.2.1.stay hb)
  have HC := Hid.mk' (hx.2.2.2.2.2.1.stay hb)
  have HD := Hid.mk' (hy.2.2.2.2.2.1.stay hb)
  have s1 := hx.2.2.2.1.1
  have s2 := hx.2.2.2.2.2.1.1
  have t1 := hy.2.2.2.1.1
  have t2 := hy.2.2.2.2.2.1.1
  have HF := Hid.mk' (samF_false (x := x) (y := y))
  have HR := Hid.mk' (samF_rest (x := x) (y := y))
  generalize samF x y = res at *
  clear hx hy
  obtain ⟨name, pa, pc, params, regs, words, ca, cc, code⟩ := x
  obtain ⟨name', pa', pc', params', regs', words', ca', cc', code'⟩ := y
  unfold Fn.val
  simp only at *
  cases e1 : (name.toList == name'.toList)
  · have hz := HF.out (.inl e1)
    subst hz
    go_enter Try.func18, Try.ntmps18
    go_wp2_with fail
    go_ret
    exact ⟨rfl, hb⟩
  cases e2 : (regs == regs')
  · have hz := HF.out (.inr (.inl e2))
    subst hz
    have e2' : (regs != regs') = true := by simp [bne, e2]
    go_enter Try.func18, Try.ntmps18
    go_wp2_with fail
    go_ret
    exact ⟨rfl, hb⟩
  have e2' : (regs != regs') = false := by simp [bne, e2]
  cases e3 : (words == words')
  · have hz := HF.out (.inr (.inr (.inl e3)))
    subst hz
    have e3' : (words != words') = true := by simp [bne, e3]
    go_enter Try.func18, Try.ntmps18
    go_wp2_with fail
    go_ret
    exact ⟨rfl, hb⟩
  have e3' : (words != words') = false := by simp [bne, e3]
  by_cases e4 : params.length = params'.length
  · by_cases e5 : code.length = code'.length
    · have hz := HR.out e1 e2 e3
      subst hz
      have HL4 := Hid.mk' e4
      have HL5 := Hid.mk' e5
      clear HF HR e2 e3
      simp only [← e4, ← e5] at hb a1 a4 b1 b4 HP HQ HC HD ⊢
      clear e4 e5 t1 t2
      go_enter Try.func18, Try.ntmps18
      go_wp2_with fail
      generalize (w.alloc (.cells #[.string name, .slice pa params.length pc, .int .i64 regs, .int .i64 words, .slice ca code.length cc] 42)).alloc (.cells #[.string name', .slice pa' params.length pc', .int .i64 regs', .int .i64 words', .slice ca' code.length cc'] 42) = W at *
      go_loopw [5] (fun t5 wr => ∃ (j nq : Nat), j ≤ params.length ∧ t5 = .int .i64 j ∧ samPs (params.drop j) (params'.drop j) = samPs params params' ∧ wr = W.drewN nq) (fun t5 _ => params.length - (intOf t5).toNat)
      case atStart => exact ⟨0, 0, Nat.zero_le _, rfl, rfl, rfl⟩
      case round =>
        obtain ⟨j, nq, hj, rfl, hcnt, rfl⟩ := hrel
        have HCN := Hid.mk' hcnt
        clear hcnt
        by_cases hlt : j < params.length
        · have hlt' : j < params'.length := by have := HL4.out; omega
          obtain ⟨b, o, rfl, c0, c1⟩ := sps_at HP.out hlt
          obtain ⟨b', o', rfl, d0, d1⟩ := sps_at HQ.out hlt'
          have hli : (j : Int) < (params.length : Int) := by omega
          have HDj := Hid.mk' (samPs_drop hlt hlt')
          generalize params[j] = x at *
          generalize params'[j] = y at *
          clear hlt'
          go_wp2_with fail
          have hq := fun w => equalIn_sp x y w
          have hg : ∀ (w : World) (op : BinOp) (a b : Operand) (xs ys : Array Value), (eqGuard op 73 a b (.agg xs) (.agg ys)).run Try.prog w = .ok () w := fun w op a b xs ys => run_eqGuard_agg w op 73 a b xs ys (by kernel_rfl)
          go_quiet (fail)
          clear hq hg
          cases ev : samP x y
          · rw [ev] at HDj
            go_wp2_with fail
            go_ret
            exact ⟨ret_bool (by rw [← HCN.out, HDj.out]; rfl), (hb.drewN _).drewN _⟩
          · rw [ev] at HDj
            go_wp2_with fail
            go_roundw
            case rel => exact ⟨j + 1, _, by omega, by go_num, by rw [← HCN.out, HDj.out]; rfl, rfl⟩
            case measure => simp [intOf]; omega
        · have hps : samPs params params' = true := by
            rw [← HCN.out, List.drop_eq_nil_of_le (by omega), List.drop_eq_nil_of_le (by have := HL4.out; omega)]; rfl
          have HPS := Hid.mk' hps
          have hli : ¬ ((j : Int) < (params.length : Int)) := by omega
          clear HCN hps
          go_wp2_with fail
          have hbW := hb.drewN nq
          replace a4 := cell_kept_below a4 ((Below.refl _ W).drewN nq)
          replace b4 := cell_kept_below b4 ((Below.refl _ W).drewN nq)
          replace HC := Hid.mk' (HC.out.stay ((Below.refl _ W).drewN nq))
          replace HD := Hid.mk' (HD.out.stay ((Below.refl _ W).drewN nq))
          clear a1 b1 hb HP HQ
          generalize W.drewN nq = V at *
          go_loopw [6] (fun t6 wr => ∃ (j nq : Nat), j ≤ code.length ∧ t6 = .int .i64 j ∧ samXs (code.drop j) (code'.drop j) = samXs code code' ∧ wr = V.drewN nq) (fun t6 _ => code.length - (intOf t6).toNat)
          case atStart => exact ⟨0, 0, Nat.zero_le _, rfl, rfl, rfl⟩
          case round =>
            obtain ⟨i, np, hi, rfl, hcnt, rfl⟩ := hrel
            have HCN := Hid.mk' hcnt
            clear hcnt
            by_cases hlt : i < code.length
            · have hlt' : i < code'.length := by have := HL5.out; omega
              obtain ⟨b, o, rfl, c0, c1, c2, c3, c4⟩ := iss_at HC.out hlt
              obtain ⟨b', o', rfl, d0, d1, d2, d3, d4⟩ := iss_at HD.out hlt'
              have hli : (i : Int) < (code.length : Int) := by omega
              have HDj := Hid.mk' (samXs_drop hlt hlt')
              generalize code[i] = x at *
              generalize code'[i] = y at *
              clear hlt'
              go_wp2_with fail
              have hq := fun w => equalIn_is x y w
              have hg : ∀ (w : World) (op : BinOp) (a b : Operand) (xs ys : Array Value), (eqGuard op 44 a b (.agg xs) (.agg ys)).run Try.prog w = .ok () w := fun w op a b xs ys => run_eqGuard_agg w op 44 a b xs ys (by kernel_rfl)
              go_quiet (fail)
              clear hq hg
              cases ev : samX x y
              · rw [ev] at HDj
                go_wp2_with fail
                go_ret
                exact ⟨ret_bool (by rw [← HCN.out, HDj.out, HPS.out]; rfl), (hbW.drewN _).drewN _⟩
              · rw [ev] at HDj
                go_wp2_with fail
                go_roundw
                case rel => exact ⟨i + 1, _, by omega, by go_num, by rw [← HCN.out, HDj.out]; rfl, rfl⟩
                case measure => simp [intOf]; omega
            · have hps : samXs code code' = true := by
                rw [← HCN.out, List.drop_eq_nil_of_le (by omega), List.drop_eq_nil_of_le (by have := HL5.out; omega)]; rfl
              have HXS := Hid.mk' hps
              have hli : ¬ ((i : Int) < (code.length : Int)) := by omega
              clear HCN hps
              go_wp2_with fail
              go_ret
              exact ⟨ret_bool (by rw [HPS.out, HXS.out]; rfl), hbW.drewN _⟩
    · have hz := HF.out (.inr (.inr (.inr (.inr (samXs_len e5)))))
      subst hz
      have e4' : ((params.length : Int) != (params'.length : Int)) = false := by simp only [bne_eq_false_iff_eq]; omega
      have e5' : ((code.length : Int) != (code'.length : Int)) = true := by simp only [bne_iff_ne]; omega
      clear e4
      go_enter Try.func18, Try.ntmps18
      go_wp2_with fail
      go_ret
      exact ⟨rfl, hb⟩
  · have hz := HF.out (.inr (.inr (.inr (.inl (samPs_len e4)))))
    subst hz
    have e4' : ((params.length : Int) != (params'.length : Int)) = true := by simp only [bne_iff_ne]; omega
    go_enter Try.func18, Try.ntmps18
    go_wp2_with fail
    go_ret
    exact ⟨rfl, hb⟩
end Go.Proofs.Ytdnilonfgbinaaa
