/- ref14.Same. -/
import Derived.Test.YtgiokognngllcaaDoorTy
import Derived.Test.YtgiokognngllcaaDoorVa
import Derived.Lib.QuietBelow
import Derived.BigQuiet
namespace Go.Proofs.YtgiokognngllcaaDoor
open Go.RowKit Go.Sort

theorem lp_ext {x y : Lp} (h1 : x.h = y.h) (h2 : x.p = y.p) (h3 : x.ms = y.ms) (h4 : x.bs = y.bs) : x = y := by
  cases x; cases y; simp only at *; subst h1 h2 h3 h4; rfl
instance : DecidableEq Lp := fun x y =>
  if h1 : x.h = y.h then if h2 : x.p = y.p then if h3 : x.ms = y.ms then if h4 : x.bs = y.bs then .isTrue (lp_ext h1 h2 h3 h4) else .isFalse fun e => h4 (by rw [e]) else .isFalse fun e => h3 (by rw [e]) else .isFalse fun e => h2 (by rw [e]) else .isFalse fun e => h1 (by rw [e])
set_option maxRecDepth 100000 in
set_option maxHeartbeats 8000000 in
theorem lsame_any (xs ys : List Lp) (a a' : Option Addr) (c c' : Nat) (w : World) (h : LpsI w a xs) (h' : LpsI w a' ys) (hl : xs.length ≤ 1152921504606846976) (hm : ∀ l ∈ xs, l.ms.length ≤ 1000000 ∧ l.bs.length ≤ 1000000) : Calls Tryd.prog 10 #[.slice a xs.length c, .slice a' ys.length c'] w fun e w' => e = .returned (.bool (decide (xs = ys))) ∧ Below w.heap.size w w' := by
  have HH := Hid.mk' h
  have HH' := Hid.mk' h'
  have HM := Hid.mk' hm
  have hb0 := Below.refl w.heap.size w
  clear h h' hm
  by_cases hll : xs.length = ys.length
  · have HL := Hid.mk' hll
    have hq : ((xs.length : Int) != (ys.length : Int)) = false := bne_no (by omega)
    clear hll
    go_enter Tryd.func10, Tryd.ntmps10
    go_wp2_with fail
    go_loopw [5] (fun t wr => ∃ (j : Nat), j ≤ xs.length ∧ t = .int .i64 j ∧ xs.take j = ys.take j ∧ Below w.heap.size w wr) (fun t _ => xs.length - (intOf t).toNat)
    case atStart => exact ⟨0, Nat.zero_le _, rfl, by simp, hb0⟩
    case round =>
      obtain ⟨j, hj, rfl, hn, hb⟩ := hrel
      have HN := Hid.mk' hn
      have HB := Hid.mk' hb
      clear hn
      by_cases hlt : j < xs.length
      · have hlt' : j < ys.length := by have := HL.out; omega
        obtain ⟨b1, o1, ma, mc, ba, bc, rfl, c0, c1, c2, c3, hma, hba⟩ := (HH.out.stay hb) j _ (List.getElem?_eq_getElem hlt)
        obtain ⟨b2, o2, na, nc, ka, kc, rfl, d0, d1, d2, d3, hna, hka⟩ := (HH'.out.stay hb) j _ (List.getElem?_eq_getElem hlt')
        have hli : (j : Int) < (xs.length : Int) := by omega
        have hli' : (j : Int) < (ys.length : Int) := by omega
        have HE := Hid.mk' (next_eq HN.out hlt hlt')
        have HP := Hid.mk' (part_ne hlt hlt')
        have HCM : Hid (∀ W, Below wr.heap.size wr W → Calls Tryd.prog 30 #[.slice ma xs[j].ms.length mc, .slice na ys[j].ms.length nc] W fun e w' => e = .returned (.bool (decide (xs[j].ms = ys[j].ms))) ∧ Below W.heap.size W w') := fun W hW => sameInts_i _ _ ma na mc nc W (hma.stay hW) (hna.stay hW) (HM.out _ (List.getElem_mem hlt)).1
        have HCB : Hid (∀ W, Below wr.heap.size wr W → Calls Tryd.prog 30 #[.slice ba xs[j].bs.length bc, .slice ka ys[j].bs.length kc] W fun e w' => e = .returned (.bool (decide (xs[j].bs = ys[j].bs))) ∧ Below W.heap.size W w') := fun W hW => sameInts_i _ _ ba ka bc kc W (hba.stay hW) (hka.stay hW) (HM.out _ (List.getElem_mem hlt)).2
        generalize xs[j] = x at *
        generalize ys[j] = y at *
        have c0 := cell_regrown c0
        have c1 := cell_regrown c1
        have c2 := cell_regrown c2
        have c3 := cell_regrown c3
        have d0 := cell_regrown d0
        have d1 := cell_regrown d1
        have d2 := cell_regrown d2
        have d3 := cell_regrown d3
        have hu : undef = Value.tuple #[] := rfl
        clear hlt' hma hba hna hka hb
        by_cases e1 : x.h = y.h
        · have q1 : (x.h != y.h) = false := bne_no e1
          by_cases e2 : x.p = y.p
          · have q2 : (x.p != y.p) = false := bne_no e2
            by_cases e3 : x.ms = y.ms
            · have HQ4 : Hid (x.bs = y.bs → x = y) := fun e4 => lp_ext e1 e2 e3 e4
              have HQ5 : Hid (x.bs ≠ y.bs → xs ≠ ys) := fun e4 => HP.out fun e => e4 (by rw [e])
              have HD : Hid ((true = decide (x.bs = y.bs)) = (x.bs = y.bs)) := by
                show _ = _
                simp
              have HD' : Hid ((false = decide (x.bs = y.bs)) = (x.bs ≠ y.bs)) := by
                show _ = _
                simp
              rw [decide_eq_true e3] at HCM
              clear e1 e2 e3 HP
              generalize hd : decide (x.bs = y.bs) = d at *
              clear hd
              go_upto_region 6 with fail
              refine wp_region_quiet_below (by kernel_rfl) (by kernel_rfl) ?_
              repeat (go_big_quiet_step (first
                  | (go_at_call 30; with_reducible exact Calls.regrown_of (HCM.out _ (below_regrown _ _ _)))
                  | (go_at_call 30; with_reducible exact Calls.regrown_of (HCB.out _ (below_regrown _ _ _)))))
              refine wpQuiet_nil ?_
              intro _ hw'
              obtain ⟨⟨dq, osq⟩, hw''⟩ := hw'
              subst hw''
              have HB3 : Hid (Below w.heap.size w (grow (redrawn wr dq) osq)) := HB.out.trans ((below_regrown wr dq osq).mono HB.out.size)
              clear c0 c1 c2 c3 d0 d1 d2 d3
              generalize grow (redrawn wr dq) osq = W3 at *
              cases d
              · have HQ := Hid.mk' (HQ5.out (HD'.out ▸ rfl))
                go_wp2_with fail
                go_ret
                exact ⟨ret_bool (by rw [decide_eq_false HQ.out]), HB3.out⟩
              · have HQ := Hid.mk' (HE.out (HQ4.out (HD.out ▸ rfl)))
                go_wp2_with fail
                go_roundw
                case rel => exact ⟨j + 1, by omega, by go_num, HQ.out, HB3.out⟩
                case measure => simp [intOf]; omega
            · have HQ : Hid (¬ xs = ys) := HP.out fun e => e3 (by rw [e])
              rw [decide_eq_false e3] at HCM
              clear e1 e2 e3 HP HE
              go_upto_region 6 with fail
              refine wp_region_quiet_below (by kernel_rfl) (by kernel_rfl) ?_
              repeat (go_big_quiet_step ((go_at_call 30; with_reducible exact Calls.regrown_of (HCM.out _ (below_regrown _ _ _)))))
              refine wpQuiet_nil ?_
              intro _ hw'
              obtain ⟨⟨dq, osq⟩, hw''⟩ := hw'
              subst hw''
              have HB3 : Hid (Below w.heap.size w (grow (redrawn wr dq) osq)) := HB.out.trans ((below_regrown wr dq osq).mono HB.out.size)
              clear c0 c1 c2 c3 d0 d1 d2 d3
              generalize grow (redrawn wr dq) osq = W3 at *
              go_wp2_with fail
              go_ret
              exact ⟨ret_bool (by rw [decide_eq_false HQ.out]), HB3.out⟩
          · have q2 : (x.p != y.p) = true := bne_of e2
            have HQ : Hid (¬ xs = ys) := HP.out fun e => e2 (by rw [e])
            clear e1 e2 HP HE HCM HCB
            go_upto_region 6 with fail
            refine wp_region_quiet_below (by kernel_rfl) (by kernel_rfl) ?_
            repeat (go_big_quiet_step (fail))
            refine wpQuiet_nil ?_
            intro _ hw'
            obtain ⟨⟨dq, osq⟩, hw''⟩ := hw'
            subst hw''
            have HB3 : Hid (Below w.heap.size w (grow (redrawn wr dq) osq)) := HB.out.trans ((below_regrown wr dq osq).mono HB.out.size)
            clear c0 c1 c2 c3 d0 d1 d2 d3
            generalize grow (redrawn wr dq) osq = W3 at *
            go_wp2_with fail
            go_ret
            exact ⟨ret_bool (by rw [decide_eq_false HQ.out]), HB3.out⟩
        · have q1 : (x.h != y.h) = true := bne_of e1
          have HQ : Hid (¬ xs = ys) := HP.out fun e => e1 (by rw [e])
          clear e1 HP HE HCM HCB
          go_upto_region 6 with fail
          refine wp_region_quiet_below (by kernel_rfl) (by kernel_rfl) ?_
          repeat (go_big_quiet_step (fail))
          refine wpQuiet_nil ?_
          intro _ hw'
          obtain ⟨⟨dq, osq⟩, hw''⟩ := hw'
          subst hw''
          have HB3 : Hid (Below w.heap.size w (grow (redrawn wr dq) osq)) := HB.out.trans ((below_regrown wr dq osq).mono HB.out.size)
          clear c0 c1 c2 c3 d0 d1 d2 d3
          generalize grow (redrawn wr dq) osq = W3 at *
          go_wp2_with fail
          go_ret
          exact ⟨ret_bool (by rw [decide_eq_false HQ.out]), HB3.out⟩
      · go_wp2_with fail
        go_ret
        exact ⟨ret_bool (by rw [decide_eq_true (done_eq HL.out HN.out hlt)]), hb⟩
  · have hq : ((xs.length : Int) != (ys.length : Int)) = true := bne_of (by omega)
    have HE2 : Hid (¬ xs = ys) := fun e => hll (by rw [e])
    clear hll
    go_enter Tryd.func10, Tryd.ntmps10
    go_wp2_with fail
    go_ret
    exact ⟨ret_bool (by rw [decide_eq_false HE2.out]), hb0⟩
end Go.Proofs.YtgiokognngllcaaDoor
