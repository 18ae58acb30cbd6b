/- checkExpr: what is wrong first with an expression. -/
import Derived.Test.YtakaldbhaoidiaaDoorPart1
import Derived.Laws.StructEq
namespace Go.Proofs.YtakaldbhaoidiaaDoor
open Go.RowKit Go.Sort

def nameZ (s : ByteArray) : Bool := nameB s.data.toList
/-- The tests on an expression's own fields, in their order. -/
def selfE (x : Ex) : Int :=
  if isE x.kind = false then 5
  else if (bits .andNot .i64 (usesE x) (formE x.kind.toNat).fields != 0) = true then 5
  else if ((formE x.kind.toNat).args != -1 && ((x.args.length : Int) != (formE x.kind.toNat).args)) = true then 5
  else if (bits .and .i64 (formE x.kind.toNat).fields 1 != 0 && !nameZ x.name) = true then 8
  else if x.n < 0 then 1 else 0
mutual
def chkE : Ex → Int → Int
  | .mk k n s a c l, lv => if 32 < lv then 20 else if selfE (.mk k n s a c l) ≠ 0 then selfE (.mk k n s a c l) else chkL l (lv + 1)
def chkL : List Ex → Int → Int
  | [], _ => 0
  | x :: r, lv => if chkE x lv ≠ 0 then chkE x lv else chkL r lv
end
theorem chkE_eq (x : Ex) (lv : Int) : chkE x lv = if 32 < lv then 20 else if selfE x ≠ 0 then selfE x else chkL x.args (lv + 1) := by cases x; simp only [chkE, Ex.args]
theorem chkL_drop {l : List Ex} {j : Nat} {lv : Int} (h : j < l.length) : chkL (l.drop j) lv = if chkE l[j] lv ≠ 0 then chkE l[j] lv else chkL (l.drop (j + 1)) lv := by
  rw [List.drop_eq_getElem_cons h, chkL]

set_option maxRecDepth 100000 in
set_option maxHeartbeats 4000000 in
theorem checkExpr_k (k : Nat) : ∀ (x : Ex) (lv : Int) (w : World), x.sz ≤ k → x.In w → Tabs w → 0 ≤ lv → lv ≤ 64 →
    Calls Tryd.prog 55 #[x.val, .int .i64 lv] w fun e w' => e = .returned (.int .i64 (chkE x lv)) ∧ Below w.heap.size w w' := by
  induction k with
  | zero => intro x n w hk; have := x.sz_args; omega
  | succ k ih =>
    intro x lv w hk hin ht h0 h1
    have hin' := Ex.in_iff.1 hin
    obtain ⟨_, _, _, hl, hc, _, hrow, hsub⟩ := hin'
    have hszl : szL x.args ≤ k := by have := x.sz_args; omega
    have IH : Hid (∀ (x : Ex) (lv : Int) (w : World), x.sz ≤ k → x.In w → Tabs w → 0 ≤ lv → lv ≤ 64 →
      Calls Tryd.prog 55 #[x.val, .int .i64 lv] w fun e w' => e = .returned (.int .i64 (chkE x lv)) ∧ Below w.heap.size w w') := ih
    have HS : Hid (∀ (y : Ex), y ∈ x.args → Ex.In w y) := hsub
    have HR : Hid (RowIn w x.a 4 (List.map Ex.cells x.args)) := hrow
    have HI : Hid (∀ w, Calls Tryd.prog 73 #[.int .i64 x.kind] w fun e w' => e = .returned (.bool (isE x.kind)) ∧ w' = w) := fun w => isExpr_any x.kind w
    have HU : Hid (∀ w, Calls Tryd.prog 74 #[x.val] w fun e w' => e = .returned (.int .i64 (usesE x)) ∧ Below w.heap.size w w') := fun w => exprUses_any x w
    have HN : Hid (∀ w, Calls Tryd.prog 31 #[.string x.name] w fun e w' => e = .returned (.bool (nameZ x.name)) ∧ w' = w) := fun w => name_any x.name w
    have HT : Hid (Tabs w) := ht
    clear ih hsub hrow hin hk ht
    have HE : Hid (chkE x lv = if 32 < lv then 20 else if selfE x ≠ 0 then selfE x else chkL x.args (lv + 1)) := chkE_eq x lv
    generalize chkE x lv = res at HE ⊢
    unfold Ex.val at HU ⊢
    by_cases hlv : 32 < lv
    · go_enter Tryd.func55, Tryd.ntmps55
      go_wp2_with fail
      go_ret
      exact ⟨ret_int (by rw [HE.out, if_pos hlv]), (Below.refl _ w).alloc (Nat.le_refl _) _⟩
    · cases hk : isE x.kind
      · rw [hk] at HI
        go_enter Tryd.func55, Tryd.ntmps55
        go_wp2_with (go_at_call 73; refine (HI.out _).mono ?_; rintro e w' ⟨rfl, rfl⟩)
        go_ret
        exact ⟨ret_int (by rw [HE.out, if_neg (by omega)]; simp [selfE, hk]), (Below.refl _ w).alloc (Nat.le_refl _) _⟩
      · rw [hk] at HI
        obtain ⟨kd, n, s, a, c, l⟩ := x
        simp only [Ex.kind, Ex.n, Ex.name, Ex.a, Ex.cap, Ex.args] at *
        obtain ⟨kn, rfl⟩ : ∃ kn : Nat, kd = kn := ⟨kd.toNat, by simp [isE] at hk; omega⟩
        have hkn : kn < 21 := by simp [isE] at hk; omega
        have HE2 : Hid (∀ b, selfE (.mk kn n s a c l) = b → res = if b ≠ 0 then b else chkL l (lv + 1)) := by
          show ∀ b, _ → _; rintro b rfl; rw [HE.out, if_neg (by omega)]
        have HSE : Hid (selfE (.mk kn n s a c l) = if (bits .andNot .i64 (usesE (.mk kn n s a c l)) (formE kn).fields != 0) = true then 5 else if ((formE kn).args != -1 && ((l.length : Int) != (formE kn).args)) = true then 5 else if (bits .and .i64 (formE kn).fields 1 != 0 && !nameZ s) = true then 8 else if n < 0 then 1 else 0) := by
          show _ = _; unfold selfE; simp only [Ex.kind, Ex.n, Ex.name, Ex.args, hk, Bool.true_eq_false, if_false, Int.toNat_natCast]; rfl
        have hcell := HT.out.2 kn hkn
        obtain ⟨t0, t1, t2, t3⟩ := hcell
        clear HE hk
        have h1w : 1 < w.heap.size := lt_of_cell t0
        generalize usesE (.mk kn n s a c l) = us at HU HSE
        generalize formE kn = fm at t0 t1 t2 t3 HSE
        go_enter Tryd.func55, Tryd.ntmps55
        go_wp2_with (go_at_call 73; refine (HI.out _).mono ?_; rintro e w' ⟨rfl, rfl⟩)
        obtain ⟨W2, hW2⟩ : ∃ W2, (w.alloc (.cells #[.int .i64 kn, .int .i64 n, .string s, .slice a l.length c] 40)).alloc (.cells #[.int .i64 fm.fields, .int .i64 fm.args, .int .i64 fm.rank, .string fm.sign] 125) = W2 := ⟨_, rfl⟩
        have BX : ∀ (j : Nat) v, ([.int .i64 kn, .int .i64 n, .string s, .slice a l.length c] : List Value)[j]? = some v → W2.cell? ⟨w.heap.size, j, none⟩ = some v := by
          intro j v h
          rw [← hW2, World.cell?_alloc_past _ _ _ (by simp), World.cell?_alloc_at _ _ _ _ rfl]; simpa using h
        have BF : ∀ (j : Nat) v, ([.int .i64 fm.fields, .int .i64 fm.args, .int .i64 fm.rank, .string fm.sign] : List Value)[j]? = some v → W2.cell? ⟨w.heap.size + 1, j, none⟩ = some v := by
          intro j v h
          rw [← hW2, World.cell?_alloc_at _ _ _ _ (by simp)]; simpa using h
        have hb2 : Below w.heap.size w W2 := by rw [← hW2]; exact ((Below.refl _ w).alloc (Nat.le_refl _) _).alloc (by simp) _
        have hs2 : w.heap.size + 1 + 1 ≤ W2.heap.size := by rw [← hW2]; simp
        rw [hW2]
        clear hW2 t0 t1 t2 t3
        have x0 := cell_regrown (BX 0 _ rfl)
        have x1 := cell_regrown (BX 1 _ rfl)
        have x2 := cell_regrown (BX 2 _ rfl)
        have x3 := cell_regrown (BX 3 _ rfl)
        have f0 := cell_regrown (BF 0 _ rfl)
        have f1 := cell_regrown (BF 1 _ rfl)
        clear BX BF
        refine wp_region_quiet_below (by kernel_rfl) (by kernel_rfl) ?_
        repeat (go_big_quiet_step ((go_at_call 74; exact Calls.regrown_of (HU.out _))))
        refine wpQuiet_nil ?_
        intro _ hw'
        obtain ⟨⟨dq, osq⟩, hw''⟩ := hw'
        subst hw''
        have y0 := x0 dq osq
        have y1 := x1 dq osq
        have y2 := x2 dq osq
        have y3 := x3 dq osq
        have z0 := f0 dq osq
        have z1 := f1 dq osq
        have hb3 : Below w.heap.size w (grow (redrawn W2 dq) osq) := hb2.trans ((below_regrown W2 dq osq).mono (by omega))
        clear x0 x1 x2 x3 f0 f1
        generalize grow (redrawn W2 dq) osq = W3 at *
        clear hb2 hs2
        cases e1 : (bits .andNot .i64 us fm.fields != 0)
        · cases e2 : (fm.args != -1)
          · skip
            cases e4 : (bits .and .i64 fm.fields 1 != 0)
            · skip
              by_cases e6 : n < 0
              · skip
                have HF : Hid (res = 1) := (by rw [HE2.out 1 (by rw [HSE.out, e1, e2, e4]; simp only [e6, if_true]; rfl)]; rfl : res = 1)
                go_wp2_with (go_at_call 31; refine (HN.out _).mono ?_; rintro e w' ⟨rfl, rfl⟩)
                go_ret
                exact ⟨ret_int HF.out.symm, hb3⟩
              · skip
                have HF : Hid (res = chkL l (lv + 1)) := (by rw [HE2.out 0 (by rw [HSE.out, e1, e2, e4]; simp only [e6, if_false]; rfl)]; rfl : res = chkL l (lv + 1))
                clear HSE HE2 HU HI
                go_wp2_with (go_at_call 31; refine (HN.out _).mono ?_; rintro e w' ⟨rfl, rfl⟩)
                go_loopw [56] (fun t56 wr => ∃ (j : Nat), j ≤ l.length ∧ t56 = .int .i64 j ∧ chkL (l.drop j) (lv + 1) = chkL l (lv + 1) ∧ Below w.heap.size w wr) (fun t56 _ => l.length - (intOf t56).toNat)
                case atStart => exact ⟨0, Nat.zero_le _, rfl, rfl, hb3⟩
                case round =>
                  obtain ⟨j, hj, rfl, hcnt, hb⟩ := hrel
                  have HC : Hid (chkL (l.drop j) (lv + 1) = res) := hcnt.trans HF.out.symm
                  clear hcnt y0 y1 y2 y3 z0 z1
                  have hws := hb.size
                  by_cases hlt : j < l.length
                  · obtain ⟨b, o, rfl, c0, c1, c2, c3⟩ := row_at (HR.out.below hb) hlt
                    have hli : (j : Int) < (l.length : Int) := by omega
                    have hsy := szL_mem (List.getElem_mem hlt)
                    have HY : Hid (Ex.In w l[j]) := HS.out l[j] (List.getElem_mem hlt)
                    have HZ : Hid (l[j].sz ≤ k) := (by omega : l[j].sz ≤ k)
                    have HD : Hid (chkL (l.drop j) (lv + 1) = if chkE l[j] (lv + 1) ≠ 0 then chkE l[j] (lv + 1) else chkL (l.drop (j + 1)) (lv + 1)) := chkL_drop hlt
                    clear hsy
                    generalize l[j] = y at *
                    go_wp2_with fail
                    refine (IH.out y (lv + 1) _ HZ.out (HY.out.stay (hb.alloc hws _)) (HT.out.stay (hb.alloc hws _)) (by omega) (by omega)).mono ?_
                    rintro e w' ⟨rfl, hb'⟩
                    have hb4 : Below w.heap.size w w' := (hb.alloc hws _).trans (hb'.mono (by simp; omega))
                    generalize chkE y (lv + 1) = v at HD ⊢
                    cases ev : (v != 0)
                    · go_wp2_with fail
                      go_roundw
                      case rel => exact ⟨j + 1, by omega, by go_num, by rw [← HF.out, ← HC.out, HD.out, if_neg (by simpa using ev)], hb4⟩
                      case measure => simp [intOf]; omega
                    · go_wp2_with fail
                      go_ret
                      exact ⟨ret_int (by rw [← HC.out, HD.out, if_pos (by simpa using ev)]), hb4⟩
                  · go_wp2_with fail
                    go_ret
                    exact ⟨ret_int (by rw [← HC.out, List.drop_eq_nil_of_le (by omega), chkL]), hb⟩
            · cases e5 : nameZ s
              · rw [e5] at HN
                have HF : Hid (res = 8) := (by rw [HE2.out 8 (by rw [HSE.out, e1, e2, e4, e5]; rfl)]; rfl : res = 8)
                go_wp2_with (go_at_call 31; refine (HN.out _).mono ?_; rintro e w' ⟨rfl, rfl⟩)
                go_ret
                exact ⟨ret_int HF.out.symm, hb3⟩
              · rw [e5] at HN
                by_cases e6 : n < 0
                · skip
                  have HF : Hid (res = 1) := (by rw [HE2.out 1 (by rw [HSE.out, e1, e2, e4, e5]; simp only [e6, if_true]; rfl)]; rfl : res = 1)
                  go_wp2_with (go_at_call 31; refine (HN.out _).mono ?_; rintro e w' ⟨rfl, rfl⟩)
                  go_ret
                  exact ⟨ret_int HF.out.symm, hb3⟩
                · skip
                  have HF : Hid (res = chkL l (lv + 1)) := (by rw [HE2.out 0 (by rw [HSE.out, e1, e2, e4, e5]; simp only [e6, if_false]; rfl)]; rfl : res = chkL l (lv + 1))
                  clear HSE HE2 HU HI
                  go_wp2_with (go_at_call 31; refine (HN.out _).mono ?_; rintro e w' ⟨rfl, rfl⟩)
                  go_loopw [56] (fun t56 wr => ∃ (j : Nat), j ≤ l.length ∧ t56 = .int .i64 j ∧ chkL (l.drop j) (lv + 1) = chkL l (lv + 1) ∧ Below w.heap.size w wr) (fun t56 _ => l.length - (intOf t56).toNat)
                  case atStart => exact ⟨0, Nat.zero_le _, rfl, rfl, hb3⟩
                  case round =>
                    obtain ⟨j, hj, rfl, hcnt, hb⟩ := hrel
                    have HC : Hid (chkL (l.drop j) (lv + 1) = res) := hcnt.trans HF.out.symm
                    clear hcnt y0 y1 y2 y3 z0 z1
                    have hws := hb.size
                    by_cases hlt : j < l.length
                    · obtain ⟨b, o, rfl, c0, c1, c2, c3⟩ := row_at (HR.out.below hb) hlt
                      have hli : (j : Int) < (l.length : Int) := by omega
                      have hsy := szL_mem (List.getElem_mem hlt)
                      have HY : Hid (Ex.In w l[j]) := HS.out l[j] (List.getElem_mem hlt)
                      have HZ : Hid (l[j].sz ≤ k) := (by omega : l[j].sz ≤ k)
                      have HD : Hid (chkL (l.drop j) (lv + 1) = if chkE l[j] (lv + 1) ≠ 0 then chkE l[j] (lv + 1) else chkL (l.drop (j + 1)) (lv + 1)) := chkL_drop hlt
                      clear hsy
                      generalize l[j] = y at *
                      go_wp2_with fail
                      refine (IH.out y (lv + 1) _ HZ.out (HY.out.stay (hb.alloc hws _)) (HT.out.stay (hb.alloc hws _)) (by omega) (by omega)).mono ?_
                      rintro e w' ⟨rfl, hb'⟩
                      have hb4 : Below w.heap.size w w' := (hb.alloc hws _).trans (hb'.mono (by simp; omega))
                      generalize chkE y (lv + 1) = v at HD ⊢
                      cases ev : (v != 0)
                      · go_wp2_with fail
                        go_roundw
                        case rel => exact ⟨j + 1, by omega, by go_num, by rw [← HF.out, ← HC.out, HD.out, if_neg (by simpa using ev)], hb4⟩
                        case measure => simp [intOf]; omega
                      · go_wp2_with fail
                        go_ret
                        exact ⟨ret_int (by rw [← HC.out, HD.out, if_pos (by simpa using ev)]), hb4⟩
                    · go_wp2_with fail
                      go_ret
                      exact ⟨ret_int (by rw [← HC.out, List.drop_eq_nil_of_le (by omega), chkL]), hb⟩
          · cases e3 : ((l.length : Int) != fm.args)
            · skip
              cases e4 : (bits .and .i64 fm.fields 1 != 0)
              · skip
                by_cases e6 : n < 0
                · skip
                  have HF : Hid (res = 1) := (by rw [HE2.out 1 (by rw [HSE.out, e1, e2, e3, e4]; simp only [e6, if_true]; rfl)]; rfl : res = 1)
                  go_wp2_with (go_at_call 31; refine (HN.out _).mono ?_; rintro e w' ⟨rfl, rfl⟩)
                  go_ret
                  exact ⟨ret_int HF.out.symm, hb3⟩
                · skip
                  have HF : Hid (res = chkL l (lv + 1)) := (by rw [HE2.out 0 (by rw [HSE.out, e1, e2, e3, e4]; simp only [e6, if_false]; rfl)]; rfl : res = chkL l (lv + 1))
                  clear HSE HE2 HU HI
                  go_wp2_with (go_at_call 31; refine (HN.out _).mono ?_; rintro e w' ⟨rfl, rfl⟩)
                  go_loopw [56] (fun t56 wr => ∃ (j : Nat), j ≤ l.length ∧ t56 = .int .i64 j ∧ chkL (l.drop j) (lv + 1) = chkL l (lv + 1) ∧ Below w.heap.size w wr) (fun t56 _ => l.length - (intOf t56).toNat)
                  case atStart => exact ⟨0, Nat.zero_le _, rfl, rfl, hb3⟩
                  case round =>
                    obtain ⟨j, hj, rfl, hcnt, hb⟩ := hrel
                    have HC : Hid (chkL (l.drop j) (lv + 1) = res) := hcnt.trans HF.out.symm
                    clear hcnt y0 y1 y2 y3 z0 z1
                    have hws := hb.size
                    by_cases hlt : j < l.length
                    · obtain ⟨b, o, rfl, c0, c1, c2, c3⟩ := row_at (HR.out.below hb) hlt
                      have hli : (j : Int) < (l.length : Int) := by omega
                      have hsy := szL_mem (List.getElem_mem hlt)
                      have HY : Hid (Ex.In w l[j]) := HS.out l[j] (List.getElem_mem hlt)
                      have HZ : Hid (l[j].sz ≤ k) := (by omega : l[j].sz ≤ k)
                      have HD : Hid (chkL (l.drop j) (lv + 1) = if chkE l[j] (lv + 1) ≠ 0 then chkE l[j] (lv + 1) else chkL (l.drop (j + 1)) (lv + 1)) := chkL_drop hlt
                      clear hsy
                      generalize l[j] = y at *
                      go_wp2_with fail
                      refine (IH.out y (lv + 1) _ HZ.out (HY.out.stay (hb.alloc hws _)) (HT.out.stay (hb.alloc hws _)) (by omega) (by omega)).mono ?_
                      rintro e w' ⟨rfl, hb'⟩
                      have hb4 : Below w.heap.size w w' := (hb.alloc hws _).trans (hb'.mono (by simp; omega))
                      generalize chkE y (lv + 1) = v at HD ⊢
                      cases ev : (v != 0)
                      · go_wp2_with fail
                        go_roundw
                        case rel => exact ⟨j + 1, by omega, by go_num, by rw [← HF.out, ← HC.out, HD.out, if_neg (by simpa using ev)], hb4⟩
                        case measure => simp [intOf]; omega
                      · go_wp2_with fail
                        go_ret
                        exact ⟨ret_int (by rw [← HC.out, HD.out, if_pos (by simpa using ev)]), hb4⟩
                    · go_wp2_with fail
                      go_ret
                      exact ⟨ret_int (by rw [← HC.out, List.drop_eq_nil_of_le (by omega), chkL]), hb⟩
              · cases e5 : nameZ s
                · rw [e5] at HN
                  have HF : Hid (res = 8) := (by rw [HE2.out 8 (by rw [HSE.out, e1, e2, e3, e4, e5]; rfl)]; rfl : res = 8)
                  go_wp2_with (go_at_call 31; refine (HN.out _).mono ?_; rintro e w' ⟨rfl, rfl⟩)
                  go_ret
                  exact ⟨ret_int HF.out.symm, hb3⟩
                · rw [e5] at HN
                  by_cases e6 : n < 0
                  · skip
                    have HF : Hid (res = 1) := (by rw [HE2.out 1 (by rw [HSE.out, e1, e2, e3, e4, e5]; simp only [e6, if_true]; rfl)]; rfl : res = 1)
                    go_wp2_with (go_at_call 31; refine (HN.out _).mono ?_; rintro e w' ⟨rfl, rfl⟩)
                    go_ret
                    exact ⟨ret_int HF.out.symm, hb3⟩
                  · skip
                    have HF : Hid (res = chkL l (lv + 1)) := (by rw [HE2.out 0 (by rw [HSE.out, e1, e2, e3, e4, e5]; simp only [e6, if_false]; rfl)]; rfl : res = chkL l (lv + 1))
                    clear HSE HE2 HU HI
                    go_wp2_with (go_at_call 31; refine (HN.out _).mono ?_; rintro e w' ⟨rfl, rfl⟩)
                    go_loopw [56] (fun t56 wr => ∃ (j : Nat), j ≤ l.length ∧ t56 = .int .i64 j ∧ chkL (l.drop j) (lv + 1) = chkL l (lv + 1) ∧ Below w.heap.size w wr) (fun t56 _ => l.length - (intOf t56).toNat)
                    case atStart => exact ⟨0, Nat.zero_le _, rfl, rfl, hb3⟩
                    case round =>
                      obtain ⟨j, hj, rfl, hcnt, hb⟩ := hrel
                      have HC : Hid (chkL (l.drop j) (lv + 1) = res) := hcnt.trans HF.out.symm
                      clear hcnt y0 y1 y2 y3 z0 z1
                      have hws := hb.size
                      by_cases hlt : j < l.length
                      · obtain ⟨b, o, rfl, c0, c1, c2, c3⟩ := row_at (HR.out.below hb) hlt
                        have hli : (j : Int) < (l.length : Int) := by omega
                        have hsy := szL_mem (List.getElem_mem hlt)
                        have HY : Hid (Ex.In w l[j]) := HS.out l[j] (List.getElem_mem hlt)
                        have HZ : Hid (l[j].sz ≤ k) := (by omega : l[j].sz ≤ k)
                        have HD : Hid (chkL (l.drop j) (lv + 1) = if chkE l[j] (lv + 1) ≠ 0 then chkE l[j] (lv + 1) else chkL (l.drop (j + 1)) (lv + 1)) := chkL_drop hlt
                        clear hsy
                        generalize l[j] = y at *
                        go_wp2_with fail
                        refine (IH.out y (lv + 1) _ HZ.out (HY.out.stay (hb.alloc hws _)) (HT.out.stay (hb.alloc hws _)) (by omega) (by omega)).mono ?_
                        rintro e w' ⟨rfl, hb'⟩
                        have hb4 : Below w.heap.size w w' := (hb.alloc hws _).trans (hb'.mono (by simp; omega))
                        generalize chkE y (lv + 1) = v at HD ⊢
                        cases ev : (v != 0)
                        · go_wp2_with fail
                          go_roundw
                          case rel => exact ⟨j + 1, by omega, by go_num, by rw [← HF.out, ← HC.out, HD.out, if_neg (by simpa using ev)], hb4⟩
                          case measure => simp [intOf]; omega
                        · go_wp2_with fail
                          go_ret
                          exact ⟨ret_int (by rw [← HC.out, HD.out, if_pos (by simpa using ev)]), hb4⟩
                      · go_wp2_with fail
                        go_ret
                        exact ⟨ret_int (by rw [← HC.out, List.drop_eq_nil_of_le (by omega), chkL]), hb⟩
            · skip
              have HF : Hid (res = 5) := (by rw [HE2.out 5 (by rw [HSE.out, e1, e2, e3]; rfl)]; rfl : res = 5)
              go_wp2_with (go_at_call 31; refine (HN.out _).mono ?_; rintro e w' ⟨rfl, rfl⟩)
              go_ret
              exact ⟨ret_int HF.out.symm, hb3⟩
        · go_wp2_with fail
          go_ret
          exact ⟨ret_int (by rw [HE2.out 5 (by rw [HSE.out, e1]; rfl)]; rfl), hb3⟩
end Go.Proofs.YtakaldbhaoidiaaDoor

/- checkStmt: what is wrong first with a statement, without those in its bodies. -/
namespace Go.Proofs.YtakaldbhaoidiaaDoor
open Go.RowKit Go.Sort

theorem checkExpr_any (x : Ex) (lv : Int) (w : World) (hin : x.In w) (ht : Tabs w) (h0 : 0 ≤ lv) (h1 : lv ≤ 64) :
    Calls Tryd.prog 55 #[x.val, .int .i64 lv] w fun e w' => e = .returned (.int .i64 (chkE x lv)) ∧ Below w.heap.size w w' := checkExpr_k _ x lv w (Nat.le_refl _) hin ht h0 h1

/-- The tests on a statement's own fields, in their order. -/
def selfS (s : St) : Int :=
  if isS s.kind = false then 5
  else if (bits .andNot .i64 (usesS s) (fldS s.kind.toNat) != 0) = true then 5
  else if (bits .and .i64 (fldS s.kind.toNat) 1 != 0 && !nameZ s.name) = true then 8
  else if (decide (s.n < 0) || leastC s.cases) = true then 1
  else if (s.kind == 10 && s.a.kind != 4) = true then 5 else 0
/-- What is wrong first with a statement at a level, without those in its bodies. -/
def chkS (s : St) (lv : Int) : Int :=
  if 32 < lv then 20 else if selfS s ≠ 0 then selfS s
  else if (bits .and .i64 (fldS s.kind.toNat) 4 != 0 && chkE s.a (lv + 1) != 0) = true then chkE s.a (lv + 1)
  else if (bits .and .i64 (fldS s.kind.toNat) 8 != 0) = true then chkE s.b (lv + 1) else 0

/-- A block that holds a statement's cells. -/
def BoxS (W : World) (B : Nat) (s : St) : Prop := ∀ (i : Nat) v, s.cells[i]? = some v → W.cell? ⟨B, i, none⟩ = some v
theorem BoxS.below {n : Nat} {W W' : World} {B : Nat} {s : St} (h : BoxS W B s) (hb : Below n W W') (hB : B < n) : BoxS W' B s := fun i v hi => (hb.cell (p := ⟨B, i, none⟩) hB).trans (h i v hi)
theorem boxS_new (w : World) (s : St) : BoxS (w.alloc (.cells #[.int .i64 s.kind, .string s.name, .int .i64 s.n, .int .i64 s.a.kind, .int .i64 s.a.n, .string s.a.name, .slice s.a.a s.a.args.length s.a.cap, .int .i64 s.b.kind, .int .i64 s.b.n, .string s.b.name, .slice s.b.a s.b.args.length s.b.cap, .slice s.ba s.body.length s.bc, .slice s.ea s.els.length s.ec, .slice s.ca s.cases.length s.cc] 43)) w.heap.size s := by
  intro i v h
  rw [World.cell?_alloc_at _ _ _ _ rfl]; simpa [St.cells] using h

set_option maxRecDepth 100000 in
set_option maxHeartbeats 8000000 in
theorem checkStmt_any (s : St) (lv : Int) (w : World) (hin : s.In w) (ht : Tabs w) (h0 : 0 ≤ lv) (h1 : lv ≤ 63) :
    Calls Tryd.prog 32 #[s.val, .int .i64 lv] w fun e w' => e = .returned (.int .i64 (chkS s lv)) ∧ Below w.heap.size w w' := by
  have HI : Hid (∀ w, Calls Tryd.prog 52 #[.int .i64 s.kind] w fun e w' => e = .returned (.bool (isS s.kind)) ∧ w' = w) := fun w => isStmt_any s.kind w
  have HU : Hid (∀ w, Calls Tryd.prog 53 #[s.val] w fun e w' => e = .returned (.int .i64 (usesS s)) ∧ Below w.heap.size w w') := fun w => stmtUses_any s w
  have HN : Hid (∀ w, Calls Tryd.prog 31 #[.string s.name] w fun e w' => e = .returned (.bool (nameZ s.name)) ∧ w' = w) := fun w => name_any s.name w
  have HL : Hid (∀ w', Below w.heap.size w w' → Calls Tryd.prog 54 #[.slice s.ca s.cases.length s.cc] w' fun e w'' => e = .returned (.bool (leastC s.cases)) ∧ Below w'.heap.size w' w'') := fun w' hb => hasLeast_any s.cases s.ca s.cc w' ((St.in_iff.1 hin).2.2.2.2.2.2.2.1.below hb)
  have HA : Hid (∀ w', Below w.heap.size w w' → Calls Tryd.prog 55 #[s.a.val, .int .i64 (lv + 1)] w' fun e w'' => e = .returned (.int .i64 (chkE s.a (lv + 1))) ∧ Below w'.heap.size w' w'') := fun w' hb => checkExpr_any s.a (lv + 1) w' ((St.in_iff.1 hin).2.2.2.1.stay hb) (ht.stay hb) (by omega) (by omega)
  have HB : Hid (∀ w', Below w.heap.size w w' → Calls Tryd.prog 55 #[s.b.val, .int .i64 (lv + 1)] w' fun e w'' => e = .returned (.int .i64 (chkE s.b (lv + 1))) ∧ Below w'.heap.size w' w'') := fun w' hb => checkExpr_any s.b (lv + 1) w' ((St.in_iff.1 hin).2.2.2.2.1.stay hb) (ht.stay hb) (by omega) (by omega)
  have HT : Hid (Tabs w) := ht
  clear ht hin
  have HE : Hid (chkS s lv = if 32 < lv then 20 else if selfS s ≠ 0 then selfS s else if (bits .and .i64 (fldS s.kind.toNat) 4 != 0 && chkE s.a (lv + 1) != 0) = true then chkE s.a (lv + 1) else if (bits .and .i64 (fldS s.kind.toNat) 8 != 0) = true then chkE s.b (lv + 1) else 0) := (rfl : chkS s lv = _)
  generalize chkS s lv = res at HE ⊢
  generalize chkE s.a (lv + 1) = va at HA HE
  generalize chkE s.b (lv + 1) = vb at HB HE
  unfold St.val at HU ⊢
  unfold Ex.val at HA HB
  have hb1 := (Below.refl _ w).alloc (Nat.le_refl _) (.cells #[.int .i64 s.kind, .string s.name, .int .i64 s.n, .int .i64 s.a.kind, .int .i64 s.a.n, .string s.a.name, .slice s.a.a s.a.args.length s.a.cap, .int .i64 s.b.kind, .int .i64 s.b.n, .string s.b.name, .slice s.b.a s.b.args.length s.b.cap, .slice s.ba s.body.length s.bc, .slice s.ea s.els.length s.ec, .slice s.ca s.cases.length s.cc] 43)
  by_cases hlv : 32 < lv
  · go_enter Tryd.func32, Tryd.ntmps32
    go_wp2_with fail
    go_ret
    exact ⟨ret_int (by rw [HE.out, if_pos hlv]), hb1⟩
  · cases hk : isS s.kind
    · rw [hk] at HI
      go_enter Tryd.func32, Tryd.ntmps32
      go_wp2_with (go_at_call 52; refine (HI.out _).mono ?_; rintro e w' ⟨rfl, rfl⟩)
      go_ret
      exact ⟨ret_int (by rw [HE.out, if_neg (by omega)]; simp [selfS, hk]), hb1⟩
    · rw [hk] at HI
      obtain ⟨kn, hkn⟩ : ∃ kn : Nat, s.kind = kn := ⟨s.kind.toNat, by simp [isS] at hk; omega⟩
      have hkl : kn < 11 := by simp [isS] at hk; omega
      have HSE : Hid (selfS s = if (bits .andNot .i64 (usesS s) (fldS kn) != 0) = true then 5 else if (bits .and .i64 (fldS kn) 1 != 0 && !nameZ s.name) = true then 8 else if (decide (s.n < 0) || leastC s.cases) = true then 1 else if ((kn : Int) == 10 && s.a.kind != 4) = true then 5 else 0) := by
        show _ = _; unfold selfS; simp only [hk, Bool.true_eq_false, if_false]; rw [hkn]; simp only [Int.toNat_natCast]
      have HE2 : Hid (res = if selfS s ≠ 0 then selfS s else if (bits .and .i64 (fldS kn) 4 != 0 && va != 0) = true then va else if (bits .and .i64 (fldS kn) 8 != 0) = true then vb else 0) := by
        show _ = _; rw [HE.out, if_neg (by omega), hkn]; rfl
      have t0 := HT.out.1 kn hkl
      have h1w : 0 < w.heap.size := lt_of_cell t0
      have BX0 : Hid (BoxS _ w.heap.size s) := boxS_new w s
      rw [hkn] at HI HU BX0 hb1 ⊢
      clear HE hk
      generalize selfS s = ss at HSE HE2
      generalize usesS s = us at HU HSE
      generalize fldS kn = F at t0 HSE HE2
      go_enter Tryd.func32, Tryd.ntmps32
      go_wp2_with (go_at_call 52; refine (HI.out _).mono ?_; rintro e w' ⟨rfl, rfl⟩)
      refine (HU.out _).mono ?_
      rintro e w1 ⟨rfl, hbu⟩
      have BX : Hid (BoxS w1 w.heap.size s) := BX0.out.below hbu (by simp)
      have hb2 : Below w.heap.size w w1 := hb1.trans (hbu.mono (by simp))
      have hs2 : w.heap.size < w1.heap.size := by have := hbu.size; simp at this; omega
      clear BX0 hbu HU HI t0 HT hb1
      cases e1 : (bits .andNot .i64 us F != 0)
      · skip
        have c1 := BX.out 1 _ rfl
        have c2 := BX.out 2 _ rfl
        have c13 := BX.out 13 _ rfl
        cases e2 : (bits .and .i64 F 1 != 0)
        · skip
          by_cases e4 : s.n < 0
          · have e4' : decide (s.n < 0) = true := by simpa using e4
            have HF : Hid (res = 1) := (by rw [HE2.out, show ss = 1 from (by rw [HSE.out, e1, e2, e4']; rfl)]; rfl : res = 1)
            go_wp2_with (go_at_call 31; refine (HN.out _).mono ?_; rintro e w' ⟨rfl, rfl⟩)
            go_ret
            exact ⟨ret_int HF.out.symm, hb2⟩
          · have e4' : decide (s.n < 0) = false := by simpa using e4
            go_wp2_with (go_at_call 31; refine (HN.out _).mono ?_; rintro e w' ⟨rfl, rfl⟩)
            refine (HL.out _ hb2).mono ?_
            rintro e w2 ⟨rfl, hbl⟩
            have BY : Hid (BoxS w2 w.heap.size s) := BX.out.below hbl hs2
            have hb3 : Below w.heap.size w w2 := hb2.trans (hbl.mono (by omega))
            have hs3 : w.heap.size < w2.heap.size := by have := hbl.size; omega
            clear c1 c2 c13 BX hbl hb2 hs2
            have c0 : w2.cell? ⟨w.heap.size, 0, none⟩ = some (.int .i64 kn) := by rw [← hkn]; exact BY.out 0 _ rfl
            have c3 := BY.out 3 _ rfl
            have c4 := BY.out 4 _ rfl
            have c5 := BY.out 5 _ rfl
            have c6 := BY.out 6 _ rfl
            cases e5 : leastC s.cases
            · skip
              cases e6 : ((kn : Int) == 10)
              · skip
                have HG : Hid (res = if (bits .and .i64 F 4 != 0 && va != 0) = true then va else if (bits .and .i64 F 8 != 0) = true then vb else 0) := (by rw [HE2.out, show ss = 0 from (by rw [HSE.out, e1, e2, e4', e5, e6]; rfl)]; rfl : res = _)
                clear HSE HE2
                cases e8 : (bits .and .i64 F 4 != 0)
                · skip
                  have c7 := BY.out 7 _ rfl
                  have c8 := BY.out 8 _ rfl
                  have c9 := BY.out 9 _ rfl
                  have c10 := BY.out 10 _ rfl
                  cases e9 : (bits .and .i64 F 8 != 0)
                  · go_wp2_with fail
                    go_ret
                    exact ⟨ret_int (by rw [HG.out, e8, e9]; rfl), hb3⟩
                  · go_wp2_with fail
                    refine (HB.out _ hb3).mono ?_
                    rintro e w3 ⟨rfl, hbx⟩
                    go_wp2_with fail
                    go_ret
                    exact ⟨ret_int (by rw [HG.out, e8, e9]; rfl), hb3.trans (hbx.mono (by omega))⟩
                · go_wp2_with fail
                  refine (HA.out _ hb3).mono ?_
                  rintro e w3 ⟨rfl, hba⟩
                  have BZ : Hid (BoxS w3 w.heap.size s) := BY.out.below hba hs3
                  have hb4 : Below w.heap.size w w3 := hb3.trans (hba.mono (by omega))
                  have hs4 : w.heap.size < w3.heap.size := by have := hba.size; omega
                  clear c0 c3 c4 c5 c6 BY
                  have c7 := BZ.out 7 _ rfl
                  have c8 := BZ.out 8 _ rfl
                  have c9 := BZ.out 9 _ rfl
                  have c10 := BZ.out 10 _ rfl
                  cases e10 : (va != 0)
                  · cases e9 : (bits .and .i64 F 8 != 0)
                    · go_wp2_with fail
                      go_ret
                      exact ⟨ret_int (by rw [HG.out, e8, e9, e10]; rfl), hb4⟩
                    · go_wp2_with fail
                      refine (HB.out _ hb4).mono ?_
                      rintro e w5 ⟨rfl, hbx⟩
                      go_wp2_with fail
                      go_ret
                      exact ⟨ret_int (by rw [HG.out, e8, e9, e10]; rfl), hb4.trans (hbx.mono (by omega))⟩
                  · go_wp2_with fail
                    go_ret
                    exact ⟨ret_int (by rw [HG.out, e8, e10]; rfl), hb4⟩
              · cases e7 : (s.a.kind != 4)
                · skip
                  have HG : Hid (res = if (bits .and .i64 F 4 != 0 && va != 0) = true then va else if (bits .and .i64 F 8 != 0) = true then vb else 0) := (by rw [HE2.out, show ss = 0 from (by rw [HSE.out, e1, e2, e4', e5, e6, e7]; rfl)]; rfl : res = _)
                  clear HSE HE2
                  cases e8 : (bits .and .i64 F 4 != 0)
                  · skip
                    have c7 := BY.out 7 _ rfl
                    have c8 := BY.out 8 _ rfl
                    have c9 := BY.out 9 _ rfl
                    have c10 := BY.out 10 _ rfl
                    cases e9 : (bits .and .i64 F 8 != 0)
                    · go_wp2_with fail
                      go_ret
                      exact ⟨ret_int (by rw [HG.out, e8, e9]; rfl), hb3⟩
                    · go_wp2_with fail
                      refine (HB.out _ hb3).mono ?_
                      rintro e w3 ⟨rfl, hbx⟩
                      go_wp2_with fail
                      go_ret
                      exact ⟨ret_int (by rw [HG.out, e8, e9]; rfl), hb3.trans (hbx.mono (by omega))⟩
                  · go_wp2_with fail
                    refine (HA.out _ hb3).mono ?_
                    rintro e w3 ⟨rfl, hba⟩
                    have BZ : Hid (BoxS w3 w.heap.size s) := BY.out.below hba hs3
                    have hb4 : Below w.heap.size w w3 := hb3.trans (hba.mono (by omega))
                    have hs4 : w.heap.size < w3.heap.size := by have := hba.size; omega
                    clear c0 c3 c4 c5 c6 BY
                    have c7 := BZ.out 7 _ rfl
                    have c8 := BZ.out 8 _ rfl
                    have c9 := BZ.out 9 _ rfl
                    have c10 := BZ.out 10 _ rfl
                    cases e10 : (va != 0)
                    · cases e9 : (bits .and .i64 F 8 != 0)
                      · go_wp2_with fail
                        go_ret
                        exact ⟨ret_int (by rw [HG.out, e8, e9, e10]; rfl), hb4⟩
                      · go_wp2_with fail
                        refine (HB.out _ hb4).mono ?_
                        rintro e w5 ⟨rfl, hbx⟩
                        go_wp2_with fail
                        go_ret
                        exact ⟨ret_int (by rw [HG.out, e8, e9, e10]; rfl), hb4.trans (hbx.mono (by omega))⟩
                    · go_wp2_with fail
                      go_ret
                      exact ⟨ret_int (by rw [HG.out, e8, e10]; rfl), hb4⟩
                · skip
                  have HF : Hid (res = 5) := (by rw [HE2.out, show ss = 5 from (by rw [HSE.out, e1, e2, e4', e5, e6, e7]; rfl)]; rfl : res = 5)
                  go_wp2_with fail
                  go_ret
                  exact ⟨ret_int HF.out.symm, hb3⟩
            · skip
              have HF : Hid (res = 1) := (by rw [HE2.out, show ss = 1 from (by rw [HSE.out, e1, e2, e4', e5]; rfl)]; rfl : res = 1)
              go_wp2_with fail
              go_ret
              exact ⟨ret_int HF.out.symm, hb3⟩
        · cases e3 : nameZ s.name
          · rw [e3] at HN
            have HF : Hid (res = 8) := (by rw [HE2.out, show ss = 8 from (by rw [HSE.out, e1, e2, e3]; rfl)]; rfl : res = 8)
            go_wp2_with (go_at_call 31; refine (HN.out _).mono ?_; rintro e w' ⟨rfl, rfl⟩)
            go_ret
            exact ⟨ret_int HF.out.symm, hb2⟩
          · rw [e3] at HN
            by_cases e4 : s.n < 0
            · have e4' : decide (s.n < 0) = true := by simpa using e4
              have HF : Hid (res = 1) := (by rw [HE2.out, show ss = 1 from (by rw [HSE.out, e1, e2, e3, e4']; rfl)]; rfl : res = 1)
              go_wp2_with (go_at_call 31; refine (HN.out _).mono ?_; rintro e w' ⟨rfl, rfl⟩)
              go_ret
              exact ⟨ret_int HF.out.symm, hb2⟩
            · have e4' : decide (s.n < 0) = false := by simpa using e4
              go_wp2_with (go_at_call 31; refine (HN.out _).mono ?_; rintro e w' ⟨rfl, rfl⟩)
              refine (HL.out _ hb2).mono ?_
              rintro e w2 ⟨rfl, hbl⟩
              have BY : Hid (BoxS w2 w.heap.size s) := BX.out.below hbl hs2
              have hb3 : Below w.heap.size w w2 := hb2.trans (hbl.mono (by omega))
              have hs3 : w.heap.size < w2.heap.size := by have := hbl.size; omega
              clear c1 c2 c13 BX hbl hb2 hs2
              have c0 : w2.cell? ⟨w.heap.size, 0, none⟩ = some (.int .i64 kn) := by rw [← hkn]; exact BY.out 0 _ rfl
              have c3 := BY.out 3 _ rfl
              have c4 := BY.out 4 _ rfl
              have c5 := BY.out 5 _ rfl
              have c6 := BY.out 6 _ rfl
              cases e5 : leastC s.cases
              · skip
                cases e6 : ((kn : Int) == 10)
                · skip
                  have HG : Hid (res = if (bits .and .i64 F 4 != 0 && va != 0) = true then va else if (bits .and .i64 F 8 != 0) = true then vb else 0) := (by rw [HE2.out, show ss = 0 from (by rw [HSE.out, e1, e2, e3, e4', e5, e6]; rfl)]; rfl : res = _)
                  clear HSE HE2
                  cases e8 : (bits .and .i64 F 4 != 0)
                  · skip
                    have c7 := BY.out 7 _ rfl
                    have c8 := BY.out 8 _ rfl
                    have c9 := BY.out 9 _ rfl
                    have c10 := BY.out 10 _ rfl
                    cases e9 : (bits .and .i64 F 8 != 0)
                    · go_wp2_with fail
                      go_ret
                      exact ⟨ret_int (by rw [HG.out, e8, e9]; rfl), hb3⟩
                    · go_wp2_with fail
                      refine (HB.out _ hb3).mono ?_
                      rintro e w3 ⟨rfl, hbx⟩
                      go_wp2_with fail
                      go_ret
                      exact ⟨ret_int (by rw [HG.out, e8, e9]; rfl), hb3.trans (hbx.mono (by omega))⟩
                  · go_wp2_with fail
                    refine (HA.out _ hb3).mono ?_
                    rintro e w3 ⟨rfl, hba⟩
                    have BZ : Hid (BoxS w3 w.heap.size s) := BY.out.below hba hs3
                    have hb4 : Below w.heap.size w w3 := hb3.trans (hba.mono (by omega))
                    have hs4 : w.heap.size < w3.heap.size := by have := hba.size; omega
                    clear c0 c3 c4 c5 c6 BY
                    have c7 := BZ.out 7 _ rfl
                    have c8 := BZ.out 8 _ rfl
                    have c9 := BZ.out 9 _ rfl
                    have c10 := BZ.out 10 _ rfl
                    cases e10 : (va != 0)
                    · cases e9 : (bits .and .i64 F 8 != 0)
                      · go_wp2_with fail
                        go_ret
                        exact ⟨ret_int (by rw [HG.out, e8, e9, e10]; rfl), hb4⟩
                      · go_wp2_with fail
                        refine (HB.out _ hb4).mono ?_
                        rintro e w5 ⟨rfl, hbx⟩
                        go_wp2_with fail
                        go_ret
                        exact ⟨ret_int (by rw [HG.out, e8, e9, e10]; rfl), hb4.trans (hbx.mono (by omega))⟩
                    · go_wp2_with fail
                      go_ret
                      exact ⟨ret_int (by rw [HG.out, e8, e10]; rfl), hb4⟩
                · cases e7 : (s.a.kind != 4)
                  · skip
                    have HG : Hid (res = if (bits .and .i64 F 4 != 0 && va != 0) = true then va else if (bits .and .i64 F 8 != 0) = true then vb else 0) := (by rw [HE2.out, show ss = 0 from (by rw [HSE.out, e1, e2, e3, e4', e5, e6, e7]; rfl)]; rfl : res = _)
                    clear HSE HE2
                    cases e8 : (bits .and .i64 F 4 != 0)
                    · skip
                      have c7 := BY.out 7 _ rfl
                      have c8 := BY.out 8 _ rfl
                      have c9 := BY.out 9 _ rfl
                      have c10 := BY.out 10 _ rfl
                      cases e9 : (bits .and .i64 F 8 != 0)
                      · go_wp2_with fail
                        go_ret
                        exact ⟨ret_int (by rw [HG.out, e8, e9]; rfl), hb3⟩
                      · go_wp2_with fail
                        refine (HB.out _ hb3).mono ?_
                        rintro e w3 ⟨rfl, hbx⟩
                        go_wp2_with fail
                        go_ret
                        exact ⟨ret_int (by rw [HG.out, e8, e9]; rfl), hb3.trans (hbx.mono (by omega))⟩
                    · go_wp2_with fail
                      refine (HA.out _ hb3).mono ?_
                      rintro e w3 ⟨rfl, hba⟩
                      have BZ : Hid (BoxS w3 w.heap.size s) := BY.out.below hba hs3
                      have hb4 : Below w.heap.size w w3 := hb3.trans (hba.mono (by omega))
                      have hs4 : w.heap.size < w3.heap.size := by have := hba.size; omega
                      clear c0 c3 c4 c5 c6 BY
                      have c7 := BZ.out 7 _ rfl
                      have c8 := BZ.out 8 _ rfl
                      have c9 := BZ.out 9 _ rfl
                      have c10 := BZ.out 10 _ rfl
                      cases e10 : (va != 0)
                      · cases e9 : (bits .and .i64 F 8 != 0)
                        · go_wp2_with fail
                          go_ret
                          exact ⟨ret_int (by rw [HG.out, e8, e9, e10]; rfl), hb4⟩
                        · go_wp2_with fail
                          refine (HB.out _ hb4).mono ?_
                          rintro e w5 ⟨rfl, hbx⟩
                          go_wp2_with fail
                          go_ret
                          exact ⟨ret_int (by rw [HG.out, e8, e9, e10]; rfl), hb4.trans (hbx.mono (by omega))⟩
                      · go_wp2_with fail
                        go_ret
                        exact ⟨ret_int (by rw [HG.out, e8, e10]; rfl), hb4⟩
                  · skip
                    have HF : Hid (res = 5) := (by rw [HE2.out, show ss = 5 from (by rw [HSE.out, e1, e2, e3, e4', e5, e6, e7]; rfl)]; rfl : res = 5)
                    go_wp2_with fail
                    go_ret
                    exact ⟨ret_int HF.out.symm, hb3⟩
              · skip
                have HF : Hid (res = 1) := (by rw [HE2.out, show ss = 1 from (by rw [HSE.out, e1, e2, e3, e4', e5]; rfl)]; rfl : res = 1)
                go_wp2_with fail
                go_ret
                exact ⟨ret_int HF.out.symm, hb3⟩
      · skip
        have HF : Hid (res = 5) := (by rw [HE2.out, show ss = 5 from (by rw [HSE.out, e1]; rfl)]; rfl : res = 5)
        go_wp2_with fail
        go_ret
        exact ⟨ret_int HF.out.symm, hb2⟩
end Go.Proofs.YtakaldbhaoidiaaDoor

/- checkStmts: what is wrong first in statements, and the number of the one where it is. -/
namespace Go.Proofs.YtakaldbhaoidiaaDoor
open Go.RowKit Go.Sort

/-- One look behind another one, where nothing was wrong. -/
def thenZ (p : Int × Int) (f : Int → Int × Int) : Int × Int := if p.1 ≠ 0 then p else f p.2
mutual
def chkT : St → Int → Int → Int × Int
  | .mk k s n a b ba bc l ea ec e ca cc c, lv, at_ =>
    if chkS (.mk k s n a b ba bc l ea ec e ca cc c) lv ≠ 0 then (chkS (.mk k s n a b ba bc l ea ec e ca cc c) lv, at_ + 1)
    else thenZ (chkSs l (lv + 1) (at_ + 1)) fun m => thenZ (chkCs c (lv + 1) m) fun m => chkSs e (lv + 1) m
def chkSs : List St → Int → Int → Int × Int
  | [], _, at_ => (0, at_)
  | s :: r, lv, at_ => thenZ (chkT s lv at_) fun m => chkSs r lv m
def chkCa : Ca → Int → Int → Int × Int
  | .mk _ _ _ l, lv, at_ => chkSs l lv at_
def chkCs : List Ca → Int → Int → Int × Int
  | [], _, at_ => (0, at_)
  | c :: r, lv, at_ => thenZ (chkCa c lv at_) fun m => chkCs r lv m
end
def chkBd : List Bd → Int → Int → Int × Int
  | [], _, at_ => (0, at_)
  | b :: r, lv, at_ => thenZ (chkSs b.l lv at_) fun m => chkBd r lv m
theorem thenZ_ret (p : Int × Int) : (thenZ p fun m => (0, m)) = p := by
  unfold thenZ; split
  · rfl
  · rename_i h; have h : p.1 = 0 := by simpa using h
    rw [← h]
theorem thenZ_assoc (p : Int × Int) (f g : Int → Int × Int) : thenZ (thenZ p f) g = thenZ p fun m => thenZ (f m) g := by
  unfold thenZ; split <;> rfl
theorem chkCa_eq (c : Ca) (lv at_ : Int) : chkCa c lv at_ = chkSs c.body lv at_ := by cases c; simp only [chkCa, Ca.body]
theorem chkBd_cases (l : List Ca) (r : List Bd) (lv at_ : Int) : chkBd (l.map Ca.bd ++ r) lv at_ = thenZ (chkCs l lv at_) fun m => chkBd r lv m := by
  induction l generalizing at_ with
  | nil => simp only [List.map_nil, List.nil_append, chkCs, thenZ]; rfl
  | cons c l ih =>
    rw [List.map_cons, List.cons_append, chkBd, chkCs, chkCa_eq, thenZ_assoc]
    congr 1
    funext m
    exact ih m
theorem chkT_eq (s : St) (lv at_ : Int) : chkT s lv at_ = if chkS s lv ≠ 0 then (chkS s lv, at_ + 1) else chkBd (bods s) (lv + 1) (at_ + 1) := by
  have h : chkBd (bods s) (lv + 1) (at_ + 1) = thenZ (chkSs s.body (lv + 1) (at_ + 1)) fun m => thenZ (chkCs s.cases (lv + 1) m) fun m => chkSs s.els (lv + 1) m := by
    rw [bods, chkBd]; congr 1; funext m
    rw [chkBd_cases]; congr 1; funext m
    rw [chkBd]; exact thenZ_ret _
  rw [h]
  cases s; simp only [chkT, St.body, St.cases, St.els]
theorem chkSs_drop {l : List St} {j : Nat} {lv at_ : Int} (h : j < l.length) : chkSs (l.drop j) lv at_ = thenZ (chkT l[j] lv at_) fun m => chkSs (l.drop (j + 1)) lv m := by
  rw [List.drop_eq_getElem_cons h, chkSs]
theorem chkBd_drop {l : List Bd} {j : Nat} {lv at_ : Int} (h : j < l.length) : chkBd (l.drop j) lv at_ = thenZ (chkSs l[j].l lv at_) fun m => chkBd (l.drop (j + 1)) lv m := by
  rw [List.drop_eq_getElem_cons h, chkBd]
theorem ssz_drop {l : List St} {j : Nat} (h : j < l.length) : ssz (l.drop j) = l[j].sz + ssz (l.drop (j + 1)) := by
  rw [List.drop_eq_getElem_cons h, ssz]
def bsz : List Bd → Nat | [] => 0 | b :: r => ssz b.l + bsz r
theorem bsz_drop {l : List Bd} {j : Nat} (h : j < l.length) : bsz (l.drop j) = ssz l[j].l + bsz (l.drop (j + 1)) := by
  rw [List.drop_eq_getElem_cons h, bsz]
theorem bsz_append (l r : List Bd) : bsz (l ++ r) = bsz l + bsz r := by
  induction l with
  | nil => simp [bsz]
  | cons b l ih => rw [List.cons_append, bsz, bsz, ih]; omega
theorem bsz_cases (l : List Ca) : bsz (l.map Ca.bd) ≤ csz l := by
  induction l with
  | nil => simp [bsz]
  | cons c l ih => rw [List.map_cons, bsz, csz, c.sz_eq]; show ssz c.body + _ ≤ _; omega
theorem bsz_bods (s : St) : bsz (bods s) + 1 ≤ s.sz := by
  rw [bods, bsz, bsz_append, bsz, bsz, s.sz_eq]
  have := bsz_cases s.cases
  show ssz s.body + (_ + (ssz s.els + 0)) + 1 ≤ _
  omega

theorem chk_at (k : Nat) : (∀ (s : St) (lv at_ : Int), s.sz ≤ k → (chkT s lv at_).2 ≤ at_ + s.sz ∧ at_ ≤ (chkT s lv at_).2) ∧ (∀ (l : List St) (lv at_ : Int), ssz l ≤ k → (chkSs l lv at_).2 ≤ at_ + ssz l ∧ at_ ≤ (chkSs l lv at_).2) := by
  have step : ∀ k, (∀ (s : St) (lv at_ : Int), s.sz ≤ k → (chkT s lv at_).2 ≤ at_ + s.sz ∧ at_ ≤ (chkT s lv at_).2) → ∀ (l : List St) (lv at_ : Int), ssz l ≤ k → (chkSs l lv at_).2 ≤ at_ + ssz l ∧ at_ ≤ (chkSs l lv at_).2 := by
    intro k h1 l
    induction l with
    | nil => intro lv at_ _; simp only [chkSs, ssz]; omega
    | cons x r ihr =>
      intro lv at_ hk
      rw [ssz] at hk ⊢
      have a1 := h1 x lv at_ (by omega)
      have a2 := ihr lv (chkT x lv at_).2 (by omega)
      rw [chkSs, thenZ]
      split <;> omega
  induction k with
  | zero =>
    have h0 : ∀ (s : St) (lv at_ : Int), s.sz ≤ 0 → (chkT s lv at_).2 ≤ at_ + s.sz ∧ at_ ≤ (chkT s lv at_).2 := fun s _ _ hk => by have := s.sz_eq; omega
    exact ⟨h0, step 0 h0⟩
  | succ k ih =>
    have h1 : ∀ (s : St) (lv at_ : Int), s.sz ≤ k + 1 → (chkT s lv at_).2 ≤ at_ + s.sz ∧ at_ ≤ (chkT s lv at_).2 := by
      intro s lv at_ hk
      have fold : ∀ (l : List Bd) (lv at_ : Int), (∀ b ∈ l, b ∈ bods s) → (chkBd l lv at_).2 ≤ at_ + bsz l ∧ at_ ≤ (chkBd l lv at_).2 := by
        intro l
        induction l with
        | nil => intro lv at_ _; simp only [chkBd, bsz]; omega
        | cons b r ihr =>
          intro lv at_ hm
          have a1 := ih.2 b.l lv at_ (by have := bods_sz (hm b (by simp)); omega)
          have a2 := ihr lv (chkSs b.l lv at_).2 (fun y hy => hm y (by simp [hy]))
          rw [chkBd, thenZ, bsz]
          split <;> omega
      rw [chkT_eq]
      have := s.sz_eq
      split
      · simp only; omega
      · have a := fold (bods s) (lv + 1) (at_ + 1) (fun b hb => hb)
        have := bsz_bods s
        omega
    exact ⟨h1, step (k + 1) h1⟩
theorem chkSs_at (l : List St) (lv at_ : Int) : (chkSs l lv at_).2 ≤ at_ + ssz l ∧ at_ ≤ (chkSs l lv at_).2 := (chk_at _).2 l lv at_ (Nat.le_refl _)
end Go.Proofs.YtakaldbhaoidiaaDoor

/- checkStmts, walked. -/
namespace Go.Proofs.YtakaldbhaoidiaaDoor
open Go.RowKit Go.Sort

theorem ret_two {a b c d : Int} (h : (a, b) = (c, d)) : Ending.returned (.tuple #[.int .i64 a, .int .i64 b]) = .returned (.tuple #[.int .i64 c, .int .i64 d]) := by cases h; rfl

set_option maxRecDepth 100000 in
set_option maxHeartbeats 8000000 in
theorem checkStmts_k (k : Nat) : ∀ (l : List St) (a : Option Addr) (c : Nat) (lv at_ : Int) (w : World), ssz l < k → Have w a c l → Tabs w → 0 ≤ lv → lv ≤ 40 → 0 ≤ at_ → at_ + ssz l ≤ 1000000000 →
    Calls Tryd.prog 24 #[.slice a l.length c, .int .i64 lv, .int .i64 at_] w fun e w' => e = .returned (.tuple #[.int .i64 (chkSs l lv at_).1, .int .i64 (chkSs l lv at_).2]) ∧ Below w.heap.size w w' := by
  induction k with
  | zero => intro l a c lv at_ w hk; omega
  | succ k ih =>
    intro l a c lv at_ w hk hin ht h0 h1 h2 h3
    obtain ⟨⟨hl, hc, _, hrow⟩, hsub⟩ := hin
    have IH : Hid (∀ (l : List St) (a : Option Addr) (c : Nat) (lv at_ : Int) (w : World), ssz l < k → Have w a c l → Tabs w → 0 ≤ lv → lv ≤ 40 → 0 ≤ at_ → at_ + ssz l ≤ 1000000000 →
      Calls Tryd.prog 24 #[.slice a l.length c, .int .i64 lv, .int .i64 at_] w fun e w' => e = .returned (.tuple #[.int .i64 (chkSs l lv at_).1, .int .i64 (chkSs l lv at_).2]) ∧ Below w.heap.size w w') := ih
    have HS : Hid (∀ x ∈ l, x.In w) := hsub
    have HR : Hid (RowIn w a 14 (List.map St.cells l)) := hrow
    have HT : Hid (Tabs w) := ht
    obtain ⟨R, hR⟩ : ∃ R, chkSs l lv at_ = R := ⟨_, rfl⟩
    rw [hR]
    clear ih hsub hrow ht
    go_enter Tryd.func24, Tryd.ntmps24
    go_wp2_with fail
    go_loopw [2, 16] (fun t2 t16 wr => ∃ (j : Nat) (m : Int), j ≤ l.length ∧ t2 = .int .i64 m ∧ t16 = .int .i64 j ∧ 0 ≤ m ∧ m + ssz (l.drop j) ≤ 1000000000 ∧ chkSs (l.drop j) lv m = R ∧ Below w.heap.size w wr) (fun _ t16 _ => l.length - (intOf t16).toNat)
    case atStart => exact ⟨0, at_, Nat.zero_le _, rfl, rfl, h2, h3, hR, Below.refl _ w⟩
    case round =>
      obtain ⟨j, m, hj, rfl, rfl, hm0, hm1, hcnt, hb⟩ := hrel
      have HC : Hid (chkSs (l.drop j) lv m = R) := hcnt
      clear hcnt hR
      have hws := hb.size
      by_cases hlt : j < l.length
      · obtain ⟨b, o, rfl, hcell⟩ := rowS_at (HR.out.below hb) hlt
        have c0 := hcell 0 _ rfl
        have c1 := hcell 1 _ rfl
        have c2 := hcell 2 _ rfl
        have c3 := hcell 3 _ rfl
        have c4 := hcell 4 _ rfl
        have c5 := hcell 5 _ rfl
        have c6 := hcell 6 _ rfl
        have c7 := hcell 7 _ rfl
        have c8 := hcell 8 _ rfl
        have c9 := hcell 9 _ rfl
        have c10 := hcell 10 _ rfl
        have c11 := hcell 11 _ rfl
        have c12 := hcell 12 _ rfl
        have c13 := hcell 13 _ rfl
        simp only [← Nat.add_assoc, Nat.add_zero] at c0 c1 c2 c3 c4 c5 c6 c7 c8 c9 c10 c11 c12 c13
        clear hcell
        have hli : (j : Int) < (l.length : Int) := by omega
        have hsy := ssz_mem (List.getElem_mem hlt)
        have hdr := ssz_drop hlt
        rw [hdr] at hm1
        have HY : Hid (l[j].In w) := HS.out l[j] (List.getElem_mem hlt)
        have HZ : Hid (l[j].sz ≤ k) := (by omega : l[j].sz ≤ k)
        have HD : Hid (chkSs (l.drop j) lv m = thenZ (chkT l[j] lv m) fun m => chkSs (l.drop (j + 1)) lv m) := chkSs_drop hlt
        clear hsy hdr
        generalize l[j] = s at *
        have HQ := chkT_eq s lv m
        have HBX0 : Hid (BoxS _ wr.heap.size s) := boxS_new wr s
        have hb1 := hb.alloc hws (.cells #[.int .i64 s.kind, .string s.name, .int .i64 s.n, .int .i64 s.a.kind, .int .i64 s.a.n, .string s.a.name, .slice s.a.a s.a.args.length s.a.cap, .int .i64 s.b.kind, .int .i64 s.b.n, .string s.b.name, .slice s.b.a s.b.args.length s.b.cap, .slice s.ba s.body.length s.bc, .slice s.ea s.els.length s.ec, .slice s.ca s.cases.length s.cc] 43)
        have hs1 := hb1.size
        have hsz := s.sz_eq
        go_wp2_with fail
        refine (checkStmt_any s lv _ (HY.out.stay hb1) (HT.out.stay hb1) h0 (by omega)).mono ?_
        rintro e w1 ⟨rfl, hbc⟩
        have BX : Hid (BoxS w1 wr.heap.size s) := HBX0.out.below hbc (by simp)
        have hb2 : Below w.heap.size w w1 := hb1.trans (hbc.mono hs1)
        have hs2 : w.heap.size ≤ w1.heap.size := hb2.size
        clear c0 c1 c2 c3 c4 c5 c6 c7 c8 c9 c10 c11 c12 c13 HBX0 hbc hb1 hs1
        have HQ' : Hid (chkT s lv m = if chkS s lv ≠ 0 then (chkS s lv, m + 1) else chkBd (bods s) (lv + 1) (m + 1)) := HQ
        have h32 : Hid (chkS s lv = 0 → lv ≤ 32) := by
          show _ → _; intro h; unfold chkS at h; by_cases h' : 32 < lv
          · rw [if_pos h'] at h; omega
          · omega
        clear HQ
        generalize chkS s lv = v at HQ' h32 ⊢
        cases ev : (v != 0)
        · have ev' : v = 0 := by simpa using ev
          have hlv := h32.out ev'
          have d0 := BX.out 0 _ rfl
          have d1 := BX.out 1 _ rfl
          have d2 := BX.out 2 _ rfl
          have d3 := BX.out 3 _ rfl
          have d4 := BX.out 4 _ rfl
          have d5 := BX.out 5 _ rfl
          have d6 := BX.out 6 _ rfl
          have d7 := BX.out 7 _ rfl
          have d8 := BX.out 8 _ rfl
          have d9 := BX.out 9 _ rfl
          have d10 := BX.out 10 _ rfl
          have d11 := BX.out 11 _ rfl
          have d12 := BX.out 12 _ rfl
          have d13 := BX.out 13 _ rfl
          clear ev
          subst ev'
          have HQ2 : Hid (chkT s lv m = chkBd (bods s) (lv + 1) (m + 1)) := (by rw [HQ'.out]; simp : chkT s lv m = chkBd (bods s) (lv + 1) (m + 1))
          clear HQ' h32
          go_wp2_with fail
          refine (bodies_any s _ (HY.out.stay hb2)).mono ?_
          rintro e w2 ⟨g, cap, rfl, hcl, hbb⟩
          have HCL : Hid (∀ i b, (bods s)[i]? = some b → w2.cell? ⟨g, i, none⟩ = some b.v) := hcl
          have hb3 : Below w.heap.size w w2 := hb2.trans (hbb.mono hs2)
          have HY2 : Hid (s.In w2) := HY.out.stay hb3
          have hbl := bods_len s
          have hcb : s.cases.length * 32 ≤ 140737488351232 := by
            obtain ⟨_, _, _, _, _, _, _, h8, _⟩ := St.in_iff.1 HY.out
            have := h8.1; have := h8.2.1; omega
          have hbz := bsz_bods s
          clear hcl d0 d1 d2 d3 d4 d5 d6 d7 d8 d9 d10 d11 d12 d13 hbb BX hsz
          go_wp2_with fail
          go_loopw [2, 32] (fun t2 t32 wq => ∃ (i : Nat) (q : Int), i ≤ (bods s).length ∧ t2 = .int .i64 q ∧ t32 = .int .i64 i ∧ 0 ≤ q ∧ q + bsz ((bods s).drop i) ≤ m + s.sz ∧ (thenZ (chkBd ((bods s).drop i) (lv + 1) q) fun m => chkSs (l.drop (j + 1)) lv m) = R ∧ Below w2.heap.size w2 wq) (fun _ t32 _ => (bods s).length - (intOf t32).toNat)
          case atStart =>
            refine ⟨0, m + 1, Nat.zero_le _, rfl, rfl, by omega, ?_, ?_, Below.refl _ _⟩
            · rw [List.drop_zero]; omega
            · rw [List.drop_zero, ← HC.out, HD.out, HQ2.out]
          case round =>
            obtain ⟨i, q, hi, rfl, rfl, hq0, hq1, hcq, hbq⟩ := hrel
            have HC2 : Hid ((thenZ (chkBd ((bods s).drop i) (lv + 1) q) fun m => chkSs (l.drop (j + 1)) lv m) = R) := hcq
            clear hcq
            have hwq := hbq.size
            by_cases hlt2 : i < (bods s).length
            · have hmem := List.getElem_mem hlt2
              have hcl := HCL.out i (bods s)[i] (List.getElem?_eq_getElem hlt2)
              have hcl' := (hbq.cell (p := ⟨g, i, none⟩) (lt_of_cell hcl)).trans hcl
              have hdr := bsz_drop hlt2
              rw [hdr] at hq1
              have HH : Hid (Have wr (bods s)[i].a (bods s)[i].c (bods s)[i].l) := (bods_have HY2.out hmem).stay hbq
              have HZ2 : Hid (ssz (bods s)[i].l < k) := (by have := bods_sz hmem; have := HZ.out; omega : ssz (bods s)[i].l < k)
              have HD2 : Hid (chkBd ((bods s).drop i) (lv + 1) q = thenZ (chkSs (bods s)[i].l (lv + 1) q) fun m => chkBd ((bods s).drop (i + 1)) (lv + 1) m) := chkBd_drop hlt2
              have hat := chkSs_at (bods s)[i].l (lv + 1) q
              have hli2 : (i : Int) < (s.cases.length : Int) + 2 := by omega
              unfold Bd.v at hcl'
              clear hcl hmem hdr
              generalize (bods s)[i] = bd at *
              go_wp2_with fail
              refine (IH.out bd.l bd.a bd.c (lv + 1) q _ HZ2.out HH.out (HT.out.stay (hb3.trans (hbq.mono hb3.size))) (by omega) (by omega) hq0 (by omega)).mono ?_
              rintro e w4 ⟨rfl, hb4⟩
              have hb5 : Below w2.heap.size w2 w4 := hbq.trans (hb4.mono hwq)
              generalize chkSs bd.l (lv + 1) q = pr at HD2 hat ⊢
              obtain ⟨p1, p2⟩ := pr
              simp only at HD2 hat ⊢
              cases ep : (p1 != 0)
              · have ep' : p1 = 0 := by simpa using ep
                subst ep'
                go_wp2_with fail
                go_roundw
                case rel => exact ⟨i + 1, p2, by omega, rfl, by go_num, by omega, by omega, by rw [← HC2.out, HD2.out, thenZ_assoc]; simp [thenZ], hb5⟩
                case measure => simp [intOf]; omega
              · go_wp2_with fail
                go_ret2
                refine ⟨ret_two ?_, hb3.trans (hb5.mono hb3.size)⟩
                have ep' : p1 ≠ 0 := by simpa using ep
                rw [← HC2.out, HD2.out, thenZ_assoc]; simp [thenZ, ep']
            · obtain rfl : i = (bods s).length := by omega
              have HC3 : Hid (chkSs (l.drop (j + 1)) lv q = R) := by
                show _ = _; rw [← HC2.out, List.drop_length, chkBd]; simp [thenZ]
              have hz0 : bsz ((bods s).drop (bods s).length) = 0 := by rw [List.drop_length]; rfl
              rw [hz0] at hq1
              clear hz0 HC2
              go_wp2_with fail
              go_roundw
              case rel => exact ⟨j + 1, q, by omega, rfl, by go_num, hq0, by omega, HC3.out, hb3.trans (hbq.mono hb3.size)⟩
              case measure => simp [intOf]; omega
        · go_wp2_with fail
          go_ret2
          refine ⟨ret_two ?_, hb2⟩
          have ev' : v ≠ 0 := by simpa using ev
          rw [← HC.out, HD.out, HQ'.out]; simp [thenZ, ev']
      · go_wp2_with fail
        go_ret2
        refine ⟨ret_two ?_, hb⟩
        rw [← HC.out, List.drop_eq_nil_of_le (by omega), chkSs]
theorem checkStmts_any (l : List St) (a : Option Addr) (c : Nat) (lv at_ : Int) (w : World) (hin : Have w a c l) (ht : Tabs w) (h0 : 0 ≤ lv) (h1 : lv ≤ 40) (h2 : 0 ≤ at_) (h3 : at_ + ssz l ≤ 1000000000) :
    Calls Tryd.prog 24 #[.slice a l.length c, .int .i64 lv, .int .i64 at_] w fun e w' => e = .returned (.tuple #[.int .i64 (chkSs l lv at_).1, .int .i64 (chkSs l lv at_).2]) ∧ Below w.heap.size w w' :=
  checkStmts_k _ l a c lv at_ w (Nat.lt_succ_self _) hin ht h0 h1 h2 h3
end Go.Proofs.YtakaldbhaoidiaaDoor

/- A function's head and body; thresholds; the whole program: tree.Check. -/
namespace Go.Proofs.YtakaldbhaoidiaaDoor
open Go.RowKit Go.Sort

theorem rowP_at {W : World} {a : Option Addr} {l : List Pa} (h : RowIn W a 3 (l.map Pa.cells)) {i : Nat} (hi : i < l.length) :
    ∃ b o, a = some ⟨b, o, none⟩ ∧ W.cell? ⟨b, o + i * 3, none⟩ = some (.string l[i].name) ∧ W.cell? ⟨b, o + i * 3 + 1, none⟩ = some (.int .i64 l[i].lo) ∧ W.cell? ⟨b, o + i * 3 + 2, none⟩ = some (.int .i64 l[i].hi) := by
  obtain ⟨b, o, e, hc⟩ := h i l[i].cells (by simp [hi])
  exact ⟨b, o, e, hc 0 _ rfl, hc 1 _ rfl, hc 2 _ rfl⟩
theorem rowW_at {W : World} {a : Option Addr} {l : List Int} (h : RowIn W a 1 (l.map fun z => [.int .i64 z])) {i : Nat} (hi : i < l.length) :
    ∃ b o, a = some ⟨b, o, none⟩ ∧ W.cell? ⟨b, o + i, none⟩ = some (.int .i64 l[i]) := by
  obtain ⟨b, o, e, hc⟩ := h i [.int .i64 l[i]] (by simp [hi])
  exact ⟨b, o, e, by simpa using hc 0 _ rfl⟩

/-- What is wrong first with parameters. -/
def parsZ : List Pa → Int
  | [] => 0
  | p :: r => if nameZ p.name = false then 8 else if (p.lo == -9223372036854775808 || p.hi == -9223372036854775808) = true then 1 else parsZ r
theorem parsZ_drop {l : List Pa} {j : Nat} (h : j < l.length) : parsZ (l.drop j) = if nameZ l[j].name = false then 8 else if (l[j].lo == -9223372036854775808 || l[j].hi == -9223372036854775808) = true then 1 else parsZ (l.drop (j + 1)) := by
  rw [List.drop_eq_getElem_cons h, parsZ]
def headZ (f : Fu) : Int := if nameZ f.name = false then 8 else if 8 < f.params.length then 3 else parsZ f.params

set_option maxRecDepth 100000 in
set_option maxHeartbeats 4000000 in
theorem checkHead_any (f : Fu) (w : World) (hin : f.In w) : Calls Tryd.prog 23 #[f.val] w fun e w' => e = .returned (.int .i64 (headZ f)) ∧ Below w.heap.size w w' := by
  obtain ⟨_, hl, hc, _, hrow, _, _⟩ := hin
  have HR : Hid (RowIn w f.pa 3 (List.map Pa.cells f.params)) := hrow
  have HN : Hid (∀ s w, Calls Tryd.prog 31 #[.string s] w fun e w' => e = .returned (.bool (nameZ s)) ∧ w' = w) := fun s w => name_any s w
  have HE : Hid (headZ f = if nameZ f.name = false then 8 else if 8 < f.params.length then 3 else parsZ f.params) := (rfl : headZ f = _)
  clear hrow
  generalize headZ f = res at HE ⊢
  have hb1 := (Below.refl _ w).alloc (Nat.le_refl _) (.cells #[.string f.name, .slice f.pa f.params.length f.pc, .slice f.ba f.body.length f.bc] 36)
  unfold Fu.val
  cases e1 : nameZ f.name
  · go_enter Tryd.func23, Tryd.ntmps23
    go_wp2_with (go_at_call 31; refine (HN.out _ _).mono ?_; rw [e1]; rintro e w' ⟨rfl, rfl⟩)
    go_ret
    exact ⟨ret_int (by rw [HE.out, e1]; rfl), hb1⟩
  · by_cases e2 : 8 < f.params.length
    · go_enter Tryd.func23, Tryd.ntmps23
      go_wp2_with (go_at_call 31; refine (HN.out _ _).mono ?_; rw [e1]; rintro e w' ⟨rfl, rfl⟩)
      go_ret
      exact ⟨ret_int (by rw [HE.out, e1]; simp [e2]), hb1⟩
    · have HF : Hid (res = parsZ f.params) := (by rw [HE.out, e1]; simp [e2] : res = parsZ f.params)
      clear HE
      go_enter Tryd.func23, Tryd.ntmps23
      go_wp2_with (go_at_call 31; refine (HN.out _ _).mono ?_; rw [e1]; rintro e w' ⟨rfl, rfl⟩)
      go_loopw [16] (fun t16 wr => ∃ (j : Nat), j ≤ f.params.length ∧ t16 = .int .i64 j ∧ parsZ (f.params.drop j) = res ∧ Below w.heap.size w wr) (fun t16 _ => f.params.length - (intOf t16).toNat)
      case atStart => exact ⟨0, Nat.zero_le _, rfl, HF.out.symm, hb1⟩
      case round =>
        obtain ⟨j, hj, rfl, hcnt, hb⟩ := hrel
        have HC : Hid (parsZ (f.params.drop j) = res) := hcnt
        clear hcnt e1
        have hws := hb.size
        by_cases hlt : j < f.params.length
        · obtain ⟨b, o, hpa, c0, c1, c2⟩ := rowP_at (HR.out.below hb) hlt
          rw [hpa]
          have hli : (j : Int) < (f.params.length : Int) := by omega
          have HD : Hid (parsZ (f.params.drop j) = if nameZ f.params[j].name = false then 8 else if (f.params[j].lo == -9223372036854775808 || f.params[j].hi == -9223372036854775808) = true then 1 else parsZ (f.params.drop (j + 1))) := parsZ_drop hlt
          generalize f.params[j] = p at *
          have hb3 := hb.alloc hws (.cells #[.string p.name, .int .i64 p.lo, .int .i64 p.hi] 55)
          cases e3 : nameZ p.name
          · have HN' : Hid (∀ w, Calls Tryd.prog 31 #[.string p.name] w fun e w' => e = .returned (.bool false) ∧ w' = w) := (fun w => by rw [← e3]; exact HN.out _ w)
            go_wp2_with (go_at_call 31; refine (HN'.out _).mono ?_; rintro e w' ⟨rfl, rfl⟩)
            go_ret
            exact ⟨ret_int (by rw [← HC.out, HD.out, e3]; rfl), hb3⟩
          · have HN' : Hid (∀ w, Calls Tryd.prog 31 #[.string p.name] w fun e w' => e = .returned (.bool true) ∧ w' = w) := (fun w => by rw [← e3]; exact HN.out _ w)
            cases e4 : (p.lo == -9223372036854775808)
            · cases e5 : (p.hi == -9223372036854775808)
              · go_wp2_with (go_at_call 31; refine (HN'.out _).mono ?_; rintro e w' ⟨rfl, rfl⟩)
                go_roundw
                case rel => exact ⟨j + 1, by omega, by go_num, by rw [← HC.out, HD.out, e3, e4, e5]; rfl, hb3⟩
                case measure => simp [intOf]; omega
              · go_wp2_with (go_at_call 31; refine (HN'.out _).mono ?_; rintro e w' ⟨rfl, rfl⟩)
                go_ret
                exact ⟨ret_int (by rw [← HC.out, HD.out, e3, e4, e5]; rfl), hb3⟩
            · go_wp2_with (go_at_call 31; refine (HN'.out _).mono ?_; rintro e w' ⟨rfl, rfl⟩)
              go_ret
              exact ⟨ret_int (by rw [← HC.out, HD.out, e3, e4]; rfl), hb3⟩
        · go_wp2_with fail
          go_ret
          exact ⟨ret_int (by rw [← HC.out, List.drop_eq_nil_of_le (by omega), parsZ]), hb⟩

/-- What is wrong first in a function, and the number of the statement where it is. -/
def chkF (f : Fu) : Int × Int := if headZ f ≠ 0 then (headZ f, 0) else chkSs f.body 1 0
set_option maxRecDepth 100000 in
set_option maxHeartbeats 4000000 in
theorem checkFn_any (f : Fu) (w : World) (hin : f.In w) (ht : Tabs w) (hsz : ssz f.body ≤ 100000) : Calls Tryd.prog 15 #[f.val] w fun e w' => e = .returned (.tuple #[.int .i64 (chkF f).1, .int .i64 (chkF f).2]) ∧ Below w.heap.size w w' := by
  have HH : Hid (∀ w', Below w.heap.size w w' → Calls Tryd.prog 23 #[f.val] w' fun e w'' => e = .returned (.int .i64 (headZ f)) ∧ Below w'.heap.size w' w'') := fun w' hb => checkHead_any f w' (hin.stay hb)
  have HS : Hid (∀ w', Below w.heap.size w w' → Calls Tryd.prog 24 #[.slice f.ba f.body.length f.bc, .int .i64 1, .int .i64 0] w' fun e w'' => e = .returned (.tuple #[.int .i64 (chkSs f.body 1 0).1, .int .i64 (chkSs f.body 1 0).2]) ∧ Below w'.heap.size w' w'') := fun w' hb => checkStmts_any f.body f.ba f.bc 1 0 w' (hin.2.2.2.2.2.2.stay hb) (ht.stay hb) (by omega) (by omega) (by omega) (by omega)
  have HE : Hid (chkF f = if headZ f ≠ 0 then (headZ f, 0) else chkSs f.body 1 0) := (rfl : chkF f = _)
  generalize chkF f = res at HE ⊢
  generalize headZ f = hz at HE HH
  generalize chkSs f.body 1 0 = pr at HE HS
  obtain ⟨p1, p2⟩ := pr
  clear hin ht
  have hb1 := (Below.refl _ w).alloc (Nat.le_refl _) (.cells #[.string f.name, .slice f.pa f.params.length f.pc, .slice f.ba f.body.length f.bc] 36)
  unfold Fu.val at HH ⊢
  cases e1 : (hz != 0)
  · go_enter Tryd.func15, Tryd.ntmps15
    go_wp2_with fail
    refine (HH.out _ hb1).mono ?_
    rintro e w1 ⟨rfl, hbh⟩
    have c2 := own_cell hbh (j := 2) rfl
    have hb2 : Below w.heap.size w w1 := hb1.trans (hbh.mono (by simp))
    go_wp2_with fail
    refine (HS.out _ hb2).mono ?_
    rintro e w2 ⟨rfl, hbs⟩
    go_wp2_with fail
    go_ret2
    have e1' : hz = 0 := by simpa using e1
    exact ⟨ret_two (by rw [HE.out]; simp [e1']), hb2.trans (hbs.mono hb2.size)⟩
  · go_enter Tryd.func15, Tryd.ntmps15
    go_wp2_with fail
    refine (HH.out _ hb1).mono ?_
    rintro e w1 ⟨rfl, hbh⟩
    have hb2 : Below w.heap.size w w1 := hb1.trans (hbh.mono (by simp))
    go_wp2_with fail
    go_ret2
    have e1' : hz ≠ 0 := by simpa using e1
    exact ⟨ret_two (by rw [HE.out]; simp [e1']), hb2⟩
end Go.Proofs.YtakaldbhaoidiaaDoor

/- Thresholds: slices.Contains at them, rise; checkWhole. -/
namespace Go.Proofs.YtakaldbhaoidiaaDoor
open Go.RowKit Go.Sort

def hasZ (x : Int) (l : List Int) : Bool := l.any fun z => x == z
theorem hasZ_drop {x : Int} {l : List Int} {j : Nat} (h : j < l.length) : hasZ x (l.drop j) = (x == l[j] || hasZ x (l.drop (j + 1))) := by
  rw [List.drop_eq_getElem_cons h]; rfl
def Thr (w : World) (a : Option Addr) (c : Nat) (l : List Int) : Prop := l.length ≤ c ∧ c * 8 ≤ 140737488351232 ∧ RowIn w a 1 (l.map fun z => [.int .i64 z])

set_option maxRecDepth 100000 in
set_option maxHeartbeats 4000000 in
theorem index_any (x : Int) (l : List Int) (a : Option Addr) (c : Nat) (w : World) (hin : Thr w a c l) : Calls Tryd.prog 29 #[.slice a l.length c, .int .i64 x] w fun e w' => ∃ r, e = .returned (.int .i64 r) ∧ decide (0 ≤ r) = hasZ x l ∧ w' = w := by
  obtain ⟨hl, hc, hrow⟩ := hin
  have HR : Hid (RowIn w a 1 (l.map fun z => [.int .i64 z])) := hrow
  clear hrow
  go_enter Tryd.func29, Tryd.ntmps29
  go_wp2_with fail
  go_loopw [8] (fun t8 wr => ∃ (j : Nat), j ≤ l.length ∧ t8 = .int .i64 j ∧ hasZ x (l.drop j) = hasZ x l ∧ wr = w) (fun t8 _ => l.length - (intOf t8).toNat)
  case atStart => exact ⟨0, Nat.zero_le _, rfl, rfl, rfl⟩
  case round =>
    obtain ⟨j, hj, rfl, hcnt, rfl⟩ := hrel
    have HC : Hid (hasZ x (l.drop j) = hasZ x l) := hcnt
    clear hcnt
    by_cases hlt : j < l.length
    · obtain ⟨b, o, rfl, c0⟩ := rowW_at HR.out hlt
      have hli : (j : Int) < (l.length : Int) := by omega
      have HD : Hid (hasZ x (l.drop j) = (x == l[j] || hasZ x (l.drop (j + 1)))) := hasZ_drop hlt
      generalize l[j] = z at *
      cases e1 : (x == z)
      · go_wp2_with fail
        go_roundw
        case rel => exact ⟨j + 1, by omega, by go_num, by rw [← HC.out, HD.out, e1]; rfl, by first | rfl | trivial⟩
        case measure => simp [intOf]; omega
      · go_wp2_with fail
        go_ret
        exact ⟨_, rfl, by rw [← HC.out, HD.out, e1]; simp, rfl⟩
    · go_wp2_with fail
      go_ret
      exact ⟨_, rfl, by rw [← HC.out, List.drop_eq_nil_of_le (by omega)]; rfl, rfl⟩
set_option maxRecDepth 100000 in
set_option maxHeartbeats 4000000 in
theorem contains_any (x : Int) (l : List Int) (a : Option Addr) (c : Nat) (w : World) (hin : Thr w a c l) : Calls Tryd.prog 20 #[.slice a l.length c, .int .i64 x] w fun e w' => e = .returned (.bool (hasZ x l)) ∧ w' = w := by
  have HI : Hid (Calls Tryd.prog 29 #[.slice a l.length c, .int .i64 x] w fun e w' => ∃ r, e = .returned (.int .i64 r) ∧ decide (0 ≤ r) = hasZ x l ∧ w' = w) := index_any x l a c w hin
  clear hin
  go_enter Tryd.func20, Tryd.ntmps20
  go_wp2_with fail
  refine HI.out.mono ?_
  rintro e w' ⟨r, rfl, hr, rfl⟩
  have HR : Hid (decide (0 ≤ r) = hasZ x l) := hr
  clear hr
  go_wp2_with fail
  go_ret
  exact ⟨ret_bool (by rw [← HR.out]), rfl⟩

/-- Do numbers rise? -/
def riseB : List Int → Bool
  | a :: b :: r => if b ≤ a then false else riseB (b :: r)
  | _ => true
theorem riseB_drop {l : List Int} {j : Nat} (h : j + 1 < l.length) : riseB (l.drop j) = if l[j + 1] ≤ l[j]'(by omega) then false else riseB (l.drop (j + 1)) := by
  rw [List.drop_eq_getElem_cons (by omega), List.drop_eq_getElem_cons h, riseB]
set_option maxRecDepth 100000 in
set_option maxHeartbeats 4000000 in
theorem rise_any (l : List Int) (a : Option Addr) (c : Nat) (w : World) (hin : Thr w a c l) : Calls Tryd.prog 21 #[.slice a l.length c] w fun e w' => e = .returned (.bool (riseB l)) ∧ Below w.heap.size w w' := by
  obtain ⟨hl, hc, hrow⟩ := hin
  have HR : Hid (RowIn w a 1 (l.map fun z => [.int .i64 z])) := hrow
  clear hrow
  go_enter Tryd.func21, Tryd.ntmps21
  go_wp2_with fail
  go_loopw [3] (fun t3 wr => ∃ (j nq : Nat), j ≤ l.length ∧ t3 = .int .i64 (j + 1) ∧ riseB (l.drop j) = riseB l ∧ wr = w.drewN nq) (fun t3 _ => l.length + 1 - (intOf t3).toNat)
  case atStart => exact ⟨0, 0, Nat.zero_le _, rfl, rfl, rfl⟩
  case round =>
    obtain ⟨j, nq, hj, rfl, hcnt, rfl⟩ := hrel
    have HC : Hid (riseB (l.drop j) = riseB l) := hcnt
    clear hcnt
    by_cases hlt : j + 1 < l.length
    · obtain ⟨b, o, rfl, c0⟩ := rowW_at HR.out hlt
      obtain ⟨b', o', e, c1⟩ := rowW_at HR.out (show j < l.length by omega)
      cases e
      have hli : (j : Int) + 1 < (l.length : Int) := by omega
      have HD : Hid (riseB (l.drop j) = if l[j + 1] ≤ l[j]'(by omega) then false else riseB (l.drop (j + 1))) := riseB_drop hlt
      generalize l[j + 1] = z1 at *
      generalize l[j] = z0 at *
      go_wp2_with fail
      go_quiet (fail)
      by_cases e1 : z1 ≤ z0
      · go_wp2_with fail
        go_ret
        exact ⟨ret_bool (by rw [← HC.out, HD.out, if_pos e1]), ((Below.refl _ w).drewN _).drewN _⟩
      · go_wp2_with fail
        go_roundw
        case rel => exact ⟨j + 1, _, by omega, by go_num, by rw [← HC.out, HD.out, if_neg (by omega)], rfl⟩
        case measure => simp [intOf]; omega
    · go_wp2_with fail
      go_ret
      exact ⟨ret_bool (by
        rw [← HC.out]
        match h : l.drop j with
        | [] => rfl
        | [_] => rfl
        | _ :: _ :: _ => have := congrArg List.length h; simp at this; omega), (Below.refl _ w).drewN _⟩
end Go.Proofs.YtakaldbhaoidiaaDoor

/- checkWhole, and tree.Check. -/
namespace Go.Proofs.YtakaldbhaoidiaaDoor
open Go.RowKit Go.Sort

/-- What is wrong with a program's thresholds and counts. -/
def wholeZ (p : Pr) : Int :=
  if 16 < p.widen.length then 3 else if hasZ (-9223372036854775808) p.widen = true then 1 else if riseB p.widen = false then 66
  else if 32 < p.funcs.length then 3 else if 4096 < nodesZ p then 3 else 0

set_option maxRecDepth 100000 in
set_option maxHeartbeats 4000000 in
theorem checkWhole_any (p : Pr) (w : World) (hin : p.In w) : Calls Tryd.prog 14 #[p.val] w fun e w' => e = .returned (.int .i64 (wholeZ p)) ∧ Below w.heap.size w w' := by
  have hth : Thr w p.wa p.wc p.widen := ⟨hin.1, hin.2.1, hin.2.2.2.1⟩
  have HC : Hid (∀ w', Below w.heap.size w w' → Calls Tryd.prog 20 #[.slice p.wa p.widen.length p.wc, .int .i64 (-9223372036854775808)] w' fun e w'' => e = .returned (.bool (hasZ (-9223372036854775808) p.widen)) ∧ w'' = w') := fun w' hb => contains_any _ p.widen p.wa p.wc w' ⟨hth.1, hth.2.1, hth.2.2.below hb⟩
  have HR : Hid (∀ w', Below w.heap.size w w' → Calls Tryd.prog 21 #[.slice p.wa p.widen.length p.wc] w' fun e w'' => e = .returned (.bool (riseB p.widen)) ∧ Below w'.heap.size w' w'') := fun w' hb => rise_any p.widen p.wa p.wc w' ⟨hth.1, hth.2.1, hth.2.2.below hb⟩
  have HN : Hid (∀ w', Below w.heap.size w w' → Calls Tryd.prog 22 #[p.val] w' fun e w'' => e = .returned (.int .i64 (nodesZ p)) ∧ Below w'.heap.size w' w'') := fun w' hb => nodes_any p w' (hin.stay hb)
  have HE : Hid (wholeZ p = if 16 < p.widen.length then 3 else if hasZ (-9223372036854775808) p.widen = true then 1 else if riseB p.widen = false then 66 else if 32 < p.funcs.length then 3 else if 4096 < nodesZ p then 3 else 0) := (rfl : wholeZ p = _)
  generalize wholeZ p = res at HE ⊢
  generalize hasZ (-9223372036854775808) p.widen = hz at HC HE
  generalize riseB p.widen = rb at HR HE
  generalize nodesZ p = nz at HN HE
  clear hth hin
  have hb1 := (Below.refl _ w).alloc (Nat.le_refl _) (.cells #[.slice p.wa p.widen.length p.wc, .slice p.fa p.funcs.length p.fc] 25)
  unfold Pr.val at HN ⊢
  by_cases e1 : 16 < p.widen.length
  · go_enter Tryd.func14, Tryd.ntmps14
    go_wp2_with fail
    go_ret
    exact ⟨ret_int (by rw [HE.out, if_pos e1]), hb1⟩
  · go_enter Tryd.func14, Tryd.ntmps14
    go_wp2_with fail
    refine (HC.out _ hb1).mono ?_
    rintro e w1 ⟨rfl, rfl⟩
    cases hz
    · go_wp2_with fail
      refine (HR.out _ hb1).mono ?_
      rintro e w2 ⟨rfl, hbr⟩
      have c0 := own_cell hbr (j := 0) rfl
      have c1 := own_cell hbr (j := 1) rfl
      have hb2 : Below w.heap.size w w2 := hb1.trans (hbr.mono (by simp))
      cases rb
      · go_wp2_with fail
        go_ret
        exact ⟨ret_int (by rw [HE.out, if_neg (by omega)]; rfl), hb2⟩
      · by_cases e4 : 32 < p.funcs.length
        · go_wp2_with fail
          go_ret
          exact ⟨ret_int (by rw [HE.out, if_neg (by omega)]; simp [e4]), hb2⟩
        · go_wp2_with fail
          refine (HN.out _ hb2).mono ?_
          rintro e w3 ⟨rfl, hbn⟩
          have hb3 : Below w.heap.size w w3 := hb2.trans (hbn.mono hb2.size)
          by_cases e5 : 4096 < nz
          · go_wp2_with fail
            go_ret
            exact ⟨ret_int (by rw [HE.out, if_neg (by omega)]; simp; omega), hb3⟩
          · go_wp2_with fail
            go_ret
            exact ⟨ret_int (by rw [HE.out, if_neg (by omega)]; simp; omega), hb3⟩
    · go_wp2_with fail
      go_ret
      exact ⟨ret_int (by rw [HE.out, if_neg (by omega)]; rfl), hb1⟩

/-- A fault as the machine holds it. -/
abbrev fltV (e f a : Int) : Value := .agg #[.int .i64 e, .int .i64 f, .int .i64 a]
/-- Function by function. -/
def chkFs : List Fu → Int → Int × Int × Int
  | [], _ => (0, 0, 0)
  | f :: r, i => if (chkF f).1 ≠ 0 then ((chkF f).1, i, (chkF f).2) else chkFs r (i + 1)
theorem chkFs_drop {l : List Fu} {j : Nat} {i : Int} (h : j < l.length) : chkFs (l.drop j) i = if (chkF l[j]).1 ≠ 0 then ((chkF l[j]).1, i, (chkF l[j]).2) else chkFs (l.drop (j + 1)) (i + 1) := by
  rw [List.drop_eq_getElem_cons h, chkFs]
/-- What is wrong first with a program. -/
def checkZ (p : Pr) : Int × Int × Int := if wholeZ p ≠ 0 then (wholeZ p, 0, 0) else chkFs p.funcs 0

theorem csz_eq (l : List Ca) : csz l = bsz (l.map Ca.bd) + l.length := by
  induction l with
  | nil => simp [bsz, csz]
  | cons c l ih => rw [List.map_cons, bsz, csz, c.sz_eq, ih, List.length_cons]; show _ = ssz c.body + _ + _; omega
theorem sz_bods (s : St) : s.sz = bsz (bods s) + s.cases.length + 1 := by
  rw [bods, bsz, bsz_append, bsz, bsz, s.sz_eq, csz_eq]
  show _ = ssz s.body + (_ + (ssz s.els + 0)) + _ + 1
  omega
theorem cntS_sz (k : Nat) : (∀ (s : St) (n : Int), s.sz ≤ k → n ≤ cntS s n ∧ (cntS s n ≤ 4096 → n + s.sz ≤ cntS s n)) ∧ (∀ (l : List St) (n : Int), ssz l ≤ k → n ≤ cntSs l n ∧ (cntSs l n ≤ 4096 → n + ssz l ≤ cntSs l n)) := by
  have step : ∀ k, (∀ (s : St) (n : Int), s.sz ≤ k → n ≤ cntS s n ∧ (cntS s n ≤ 4096 → n + s.sz ≤ cntS s n)) → ∀ (l : List St) (n : Int), ssz l ≤ k → n ≤ cntSs l n ∧ (cntSs l n ≤ 4096 → n + ssz l ≤ cntSs l n) := by
    intro k h1 l
    induction l with
    | nil => intro n _; simp only [cntSs, ssz]; omega
    | cons x r ihr =>
      intro n hk
      rw [ssz] at hk ⊢
      rw [cntSs]
      split
      · omega
      · have a1 := h1 x n (by omega)
        have a2 := ihr (cntS x n) (by omega)
        omega
  induction k with
  | zero =>
    have h0 : ∀ (s : St) (n : Int), s.sz ≤ 0 → n ≤ cntS s n ∧ (cntS s n ≤ 4096 → n + s.sz ≤ cntS s n) := fun s n hk => by have := s.sz_eq; omega
    exact ⟨h0, step 0 h0⟩
  | succ k ih =>
    have h1 : ∀ (s : St) (n : Int), s.sz ≤ k + 1 → n ≤ cntS s n ∧ (cntS s n ≤ 4096 → n + s.sz ≤ cntS s n) := by
      intro s n hk
      have fold : ∀ (l : List Bd) (n : Int), (∀ b ∈ l, b ∈ bods s) → n ≤ cntB l n ∧ (cntB l n ≤ 4096 → n + bsz l ≤ cntB l n) := by
        intro l
        induction l with
        | nil => intro n _; simp only [cntB, bsz]; omega
        | cons b r ihr =>
          intro n hm
          rw [cntB, bsz]
          have a1 := ih.2 b.l n (by have := bods_sz (hm b (by simp)); omega)
          have a2 := ihr (cntSs b.l n) (fun y hy => hm y (by simp [hy]))
          omega
      rw [cntS_eq]
      have a1 := cntZ_ge s.a (n + (1 + (s.cases.length : Int)))
      have a2 := cntZ_ge s.b (cntZ s.a (n + (1 + (s.cases.length : Int))))
      have a5 := fold (bods s) (cntZ s.b (cntZ s.a (n + (1 + (s.cases.length : Int))))) (fun b hb => hb)
      have := sz_bods s
      omega
    exact ⟨h1, step (k + 1) h1⟩
theorem cntF_sz : ∀ (l : List Fu) (n : Int), n ≤ cntF l n ∧ (cntF l n ≤ 4096 → 0 ≤ n → ∀ f ∈ l, ssz f.body ≤ 4096)
  | [], n => ⟨Int.le_refl _, fun _ _ f hf => by cases hf⟩
  | f :: r, n => by
    have a1 := (cntS_sz _).2 f.body n (Nat.le_refl _)
    have a2 := cntF_sz r (cntSs f.body n)
    rw [cntF]
    refine ⟨by omega, fun h h0 g hg => ?_⟩
    rcases List.mem_cons.1 hg with rfl | hg
    · have := a1.2 (by omega); omega
    · exact a2.2 h (by omega) g hg
theorem whole_sz {p : Pr} (h : wholeZ p = 0) : ∀ f ∈ p.funcs, ssz f.body ≤ 4096 := by
  have hn : nodesZ p ≤ 4096 := by
    unfold wholeZ at h
    split at h
    · omega
    split at h
    · omega
    split at h
    · omega
    split at h
    · omega
    split at h
    · omega
    omega
  unfold nodesZ at hn
  exact (cntF_sz p.funcs 0).2 (by omega) (by omega)

theorem below_set3 {B b : Nat} {w w' : World} (hb : Below B w w') (h : B ≤ b) (u0 u1 u2 : Value) : Below B w (((w'.setCell ⟨b, 0, none⟩ u0).setCell ⟨b, 1, none⟩ u1).setCell ⟨b, 2, none⟩ u2) :=
  ((hb.setCell (p := ⟨b, 0, none⟩) h u0).setCell (p := ⟨b, 1, none⟩) h u1).setCell (p := ⟨b, 2, none⟩) h u2
/-- Two new blocks, and a world behind them in which they are as they were. -/
theorem two_cells {w w1 : World} {c1 c2 : Array Value} {t1 t2 : TypeId} (hb : Below ((w.alloc (.cells c1 t1)).alloc (.cells c2 t2)).heap.size ((w.alloc (.cells c1 t1)).alloc (.cells c2 t2)) w1) :
    (∀ (j : Nat) v, c1[j]? = some v → w1.cell? ⟨w.heap.size, j, none⟩ = some v) ∧ (∀ (j : Nat) v, c2[j]? = some v → w1.cell? ⟨w.heap.size + 1, j, none⟩ = some v) ∧ (∀ j : Nat, w1.frozen? ⟨w.heap.size + 1, j, none⟩ = false) := by
  refine ⟨fun j v h => ?_, fun j v h => ?_, fun j => ?_⟩
  · rw [hb.cell (p := ⟨w.heap.size, j, none⟩) (by simp; omega), World.cell?_alloc_past _ _ _ (by simp), World.cell?_alloc_at _ _ _ _ rfl]; exact h
  · rw [hb.cell (p := ⟨w.heap.size + 1, j, none⟩) (by simp), World.cell?_alloc_at _ _ _ _ (by simp)]; exact h
  · rw [hb.frozen (p := ⟨w.heap.size + 1, j, none⟩) (by simp)]
    have hn : ((w.alloc (.cells c1 t1)).alloc (.cells c2 t2)).heap[w.heap.size + 1]? = some (.cells c2 t2 (0, 0)) := by
      have := heap_alloc_new (w.alloc (.cells c1 t1)) (.cells c2 t2)
      rwa [World.size_alloc] at this
    unfold World.frozen?
    rw [hn]; simp

set_option maxRecDepth 100000 in
set_option maxHeartbeats 4000000 in
theorem check_any (p : Pr) (w : World) (hin : p.In w) (ht : Tabs w) : Calls Tryd.prog 9 #[p.val] w fun e w' => e = .returned (fltV (checkZ p).1 (checkZ p).2.1 (checkZ p).2.2) ∧ Below w.heap.size w w' := by
  have HW : Hid (∀ w', Below w.heap.size w w' → Calls Tryd.prog 14 #[p.val] w' fun e w'' => e = .returned (.int .i64 (wholeZ p)) ∧ Below w'.heap.size w' w'') := fun w' hb => checkWhole_any p w' (hin.stay hb)
  have HE : Hid (checkZ p = if wholeZ p ≠ 0 then (wholeZ p, 0, 0) else chkFs p.funcs 0) := (rfl : checkZ p = _)
  have HZ : Hid (wholeZ p = 0 → ∀ f ∈ p.funcs, ssz f.body ≤ 4096) := fun h => whole_sz h
  have HT : Hid (Tabs w) := ht
  obtain ⟨_, _, _, _, _, hl, hc, _, hrow, hsub⟩ := hin
  have HR : Hid (RowIn w p.fa 3 (List.map Fu.cells p.funcs)) := hrow
  have HS : Hid (∀ f ∈ p.funcs, f.In w) := hsub
  clear ht hrow hsub
  generalize checkZ p = res at HE ⊢
  generalize wholeZ p = wz at HW HE HZ
  have hb1 := ((Below.refl _ w).alloc (Nat.le_refl _) (.cells #[.slice p.wa p.widen.length p.wc, .slice p.fa p.funcs.length p.fc] 25)).alloc (by simp) (.cells #[.int .i64 0, .int .i64 0, .int .i64 0] 29)
  unfold Pr.val at HW ⊢
  go_enter Tryd.func9, Tryd.ntmps9
  go_wp2_with fail
  refine (HW.out _ hb1).mono ?_
  rintro e w1 ⟨rfl, hbw⟩
  obtain ⟨hX, hRs, hF⟩ := two_cells hbw
  have r0 := hRs 0 _ rfl
  have r1 := hRs 1 _ rfl
  have r2 := hRs 2 _ rfl
  have q0 := hF 0
  have q1 := hF 1
  have q2 := hF 2
  have c1 := hX 1 _ rfl
  have hb2 : Below w.heap.size w w1 := hb1.trans (hbw.mono (by simp; omega))
  have hs2 : w.heap.size + 1 + 1 ≤ w1.heap.size := by have := hbw.size; simp at this; omega
  have R0 : Hid (w1.cell? ⟨w.heap.size + 1, 0, none⟩ = some (.int .i64 0)) := r0
  have R1 : Hid (w1.cell? ⟨w.heap.size + 1, 1, none⟩ = some (.int .i64 0)) := r1
  have R2 : Hid (w1.cell? ⟨w.heap.size + 1, 2, none⟩ = some (.int .i64 0)) := r2
  have Q0 : Hid (w1.frozen? ⟨w.heap.size + 1, 0, none⟩ = false) := q0
  have Q1 : Hid (w1.frozen? ⟨w.heap.size + 1, 1, none⟩ = false) := q1
  have Q2 : Hid (w1.frozen? ⟨w.heap.size + 1, 2, none⟩ = false) := q2
  clear hX hRs hF hbw hb1
  cases e1 : (wz != 0)
  · have e1' : wz = 0 := by simpa using e1
    have HF : Hid (res = chkFs p.funcs 0) := (by rw [HE.out]; simp [e1'] : res = chkFs p.funcs 0)
    have HZ' : Hid (∀ f ∈ p.funcs, ssz f.body ≤ 4096) := HZ.out e1'
    clear HZ HE HW e1'
    go_wp2_with fail
    go_loopw [17] (fun t17 wr => ∃ (j : Nat), j ≤ p.funcs.length ∧ t17 = .int .i64 j ∧ chkFs (p.funcs.drop j) j = res ∧ Below w1.heap.size w1 wr) (fun t17 _ => p.funcs.length - (intOf t17).toNat)
    case atStart => exact ⟨0, Nat.zero_le _, rfl, HF.out.symm, Below.refl _ _⟩
    case round =>
      obtain ⟨j, hj, rfl, hcnt, hb⟩ := hrel
      have HC : Hid (chkFs (p.funcs.drop j) j = res) := hcnt
      clear hcnt
      have hws := hb.size
      have hb3 : Below w.heap.size w wr := hb2.trans (hb.mono hb2.size)
      have hlt1 : w.heap.size + 1 < w1.heap.size := by omega
      by_cases hlt : j < p.funcs.length
      · obtain ⟨b, o, hfa, c0, c1, c2⟩ := rowF_at (HR.out.below hb3) hlt
        rw [hfa]
        have hli : (j : Int) < (p.funcs.length : Int) := by omega
        have HY : Hid (p.funcs[j].In w) := HS.out p.funcs[j] (List.getElem_mem hlt)
        have HSZ : Hid (ssz p.funcs[j].body ≤ 4096) := HZ'.out p.funcs[j] (List.getElem_mem hlt)
        have HD : Hid (chkFs (p.funcs.drop j) j = if (chkF p.funcs[j]).1 ≠ 0 then ((chkF p.funcs[j]).1, (j : Int), (chkF p.funcs[j]).2) else chkFs (p.funcs.drop (j + 1)) (j + 1)) := chkFs_drop hlt
        generalize p.funcs[j] = f at *
        have hb4 := hb.alloc hws (.cells #[.string f.name, .slice f.pa f.params.length f.pc, .slice f.ba f.body.length f.bc] 36)
        have hb5 : Below w.heap.size w _ := hb2.trans (hb4.mono hb2.size)
        have hs4 := hb4.size
        clear r0 r1 r2 q0 q1 q2
        go_wp2_with fail
        refine (checkFn_any f _ (HY.out.stay hb5) (HT.out.stay hb5) (by have := HSZ.out; omega)).mono ?_
        rintro e w2 ⟨rfl, hbf⟩
        have hb6 : Below w1.heap.size w1 w2 := hb4.trans (hbf.mono hs4)
        have hb7 : Below w.heap.size w w2 := hb2.trans (hb6.mono hb2.size)
        generalize chkF f = pr at HD ⊢
        obtain ⟨p1, p2⟩ := pr
        simp only at HD ⊢
        have r0 := (hb6.cell (p := ⟨w.heap.size + 1, 0, none⟩) hlt1).trans R0.out
        have r1 := (hb6.cell (p := ⟨w.heap.size + 1, 1, none⟩) hlt1).trans R1.out
        have r2 := (hb6.cell (p := ⟨w.heap.size + 1, 2, none⟩) hlt1).trans R2.out
        have q0 := (hb6.frozen (p := ⟨w.heap.size + 1, 0, none⟩) hlt1).trans Q0.out
        have q1 := (hb6.frozen (p := ⟨w.heap.size + 1, 1, none⟩) hlt1).trans Q1.out
        have q2 := (hb6.frozen (p := ⟨w.heap.size + 1, 2, none⟩) hlt1).trans Q2.out
        cases ep : (p1 != 0)
        · have ep' : p1 = 0 := by simpa using ep
          go_wp2_with fail
          go_roundw
          case rel => exact ⟨j + 1, by omega, by go_num, by rw [← HC.out, HD.out, if_neg (by simpa using ep')]; rfl, hb6⟩
          case measure => simp [intOf]; omega
        · have ep' : p1 ≠ 0 := by simpa using ep
          have HG : Hid (res = (p1, (j : Int), p2)) := (by rw [← HC.out, HD.out, if_pos ep'] : res = _)
          clear HC HD
          go_wp2_with fail
          refine bodyPost_ret (v := fltV p1 j p2) (by simp [results, Tryd.results9, go_sem, r0, r1, r2]) rfl ⟨?_, below_set3 hb7 (by omega) _ _ _⟩
          rw [HG.out]
      · have hb3' : Below w.heap.size w wr := hb3
        have r0 := (hb.cell (p := ⟨w.heap.size + 1, 0, none⟩) hlt1).trans R0.out
        have r1 := (hb.cell (p := ⟨w.heap.size + 1, 1, none⟩) hlt1).trans R1.out
        have r2 := (hb.cell (p := ⟨w.heap.size + 1, 2, none⟩) hlt1).trans R2.out
        have q0 := (hb.frozen (p := ⟨w.heap.size + 1, 0, none⟩) hlt1).trans Q0.out
        have q1 := (hb.frozen (p := ⟨w.heap.size + 1, 1, none⟩) hlt1).trans Q1.out
        have q2 := (hb.frozen (p := ⟨w.heap.size + 1, 2, none⟩) hlt1).trans Q2.out
        have HG : Hid (res = (0, 0, 0)) := (by rw [← HC.out, List.drop_eq_nil_of_le (by omega), chkFs] : res = _)
        clear HC
        go_wp2_with fail
        refine bodyPost_ret (v := fltV 0 0 0) (by simp [results, Tryd.results9, go_sem, r0, r1, r2]) rfl ⟨?_, below_set3 hb3' (by omega) _ _ _⟩
        rw [HG.out]
  · have e1' : wz ≠ 0 := by simpa using e1
    have HG : Hid (res = (wz, 0, 0)) := (by rw [HE.out, if_pos e1'] : res = _)
    go_wp2_with fail
    refine bodyPost_ret (v := fltV wz 0 0) (by simp [results, Tryd.results9, go_sem, r0, r1, r2]) rfl ⟨?_, below_set3 hb2 (by omega) _ _ _⟩
    rw [HG.out]
end Go.Proofs.YtakaldbhaoidiaaDoor

/- What it is that two programs are the same, in plain words. -/
namespace Go.Proofs.YtakaldbhaoidiaaDoor
open Go.RowKit

mutual
def samE : Ex → Ex → Bool
  | .mk k n s _ _ l, y => k == y.kind && (n == y.n && (s.toList == y.name.toList && samEs l y.args))
def samEs : List Ex → List Ex → Bool
  | [], [] => true
  | x :: r, y :: t => samE x y && samEs r t
  | [], _ :: _ => false
  | _ :: _, [] => false
end
theorem samE_eq (x y : Ex) : samE x y = (x.kind == y.kind && (x.n == y.n && (x.name.toList == y.name.toList && samEs x.args y.args))) := by cases x; simp only [samE, Ex.kind, Ex.n, Ex.name, Ex.args]
theorem samEs_len : ∀ {l t : List Ex}, l.length ≠ t.length → samEs l t = false
  | [], [], h => by simp at h
  | [], _ :: _, _ => by simp [samEs]
  | _ :: _, [], _ => by simp [samEs]
  | x :: r, y :: t, h => by simp only [samEs]; rw [samEs_len (by simpa using h)]; simp
theorem samEs_drop {l t : List Ex} {j : Nat} (h : j < l.length) (h' : j < t.length) : samEs (l.drop j) (t.drop j) = (samE l[j] t[j] && samEs (l.drop (j + 1)) (t.drop (j + 1))) := by
  rw [List.drop_eq_getElem_cons h, List.drop_eq_getElem_cons h', samEs]
def HaveE (W : World) (a : Option Addr) (c : Nat) (l : List Ex) : Prop := l.length ≤ c ∧ c * 56 ≤ 140737488351232 ∧ RowIn W a 4 (l.map Ex.cells) ∧ ∀ x ∈ l, x.In W
theorem HaveE.stay {W W' : World} (hb : Below W.heap.size W W') {a : Option Addr} {c : Nat} {l : List Ex} (h : HaveE W a c l) : HaveE W' a c l := ⟨h.1, h.2.1, h.2.2.1.below hb, fun x hx => (h.2.2.2 x hx).stay hb⟩
theorem Ex.In.have {W : World} {x : Ex} (h : x.In W) : HaveE W x.a x.cap x.args := by
  obtain ⟨_, _, _, h4, h5, _, h7, h8⟩ := Ex.in_iff.1 h
  exact ⟨h4, h5, h7, h8⟩

mutual
def samS : St → St → Bool
  | .mk k s n a b _ _ l _ _ e _ _ c, y => k == y.kind && (s.toList == y.name.toList && (n == y.n && (samE a y.a && (samE b y.b && (samSs l y.body && (samSs e y.els && samCs c y.cases))))))
def samSs : List St → List St → Bool
  | [], [] => true
  | x :: r, y :: t => samS x y && samSs r t
  | [], _ :: _ => false
  | _ :: _, [] => false
def samC : Ca → Ca → Bool
  | .mk n _ _ l, y => n == y.n && samSs l y.body
def samCs : List Ca → List Ca → Bool
  | [], [] => true
  | x :: r, y :: t => samC x y && samCs r t
  | [], _ :: _ => false
  | _ :: _, [] => false
end
theorem samS_eq (x y : St) : samS x y = (x.kind == y.kind && (x.name.toList == y.name.toList && (x.n == y.n && (samE x.a y.a && (samE x.b y.b && (samSs x.body y.body && (samSs x.els y.els && samCs x.cases y.cases))))))) := by
  cases x; simp only [samS, St.kind, St.name, St.n, St.a, St.b, St.body, St.els, St.cases]
theorem samC_eq (x y : Ca) : samC x y = (x.n == y.n && samSs x.body y.body) := by cases x; simp only [samC, Ca.n, Ca.body]
theorem samSs_len : ∀ {l t : List St}, l.length ≠ t.length → samSs l t = false
  | [], [], h => by simp at h
  | [], _ :: _, _ => by simp [samSs]
  | _ :: _, [], _ => by simp [samSs]
  | x :: r, y :: t, h => by simp only [samSs]; rw [samSs_len (by simpa using h)]; simp
theorem samCs_len : ∀ {l t : List Ca}, l.length ≠ t.length → samCs l t = false
  | [], [], h => by simp at h
  | [], _ :: _, _ => by simp [samCs]
  | _ :: _, [], _ => by simp [samCs]
  | x :: r, y :: t, h => by simp only [samCs]; rw [samCs_len (by simpa using h)]; simp
theorem samSs_drop {l t : List St} {j : Nat} (h : j < l.length) (h' : j < t.length) : samSs (l.drop j) (t.drop j) = (samS l[j] t[j] && samSs (l.drop (j + 1)) (t.drop (j + 1))) := by
  rw [List.drop_eq_getElem_cons h, List.drop_eq_getElem_cons h', samSs]
theorem samCs_drop {l t : List Ca} {j : Nat} (h : j < l.length) (h' : j < t.length) : samCs (l.drop j) (t.drop j) = (samC l[j] t[j] && samCs (l.drop (j + 1)) (t.drop (j + 1))) := by
  rw [List.drop_eq_getElem_cons h, List.drop_eq_getElem_cons h', samCs]
def HaveC (W : World) (a : Option Addr) (c : Nat) (l : List Ca) : Prop := LiesC W a c l ∧ ∀ x ∈ l, x.In W
theorem rowC_cells {W : World} {a : Option Addr} {l : List Ca} (h : RowIn W a 2 (l.map Ca.cells)) {i : Nat} (hi : i < l.length) :
    ∃ b o, a = some ⟨b, o, none⟩ ∧ ∀ j v, l[i].cells[j]? = some v → W.cell? ⟨b, o + (i * 2 + j), none⟩ = some v := h i l[i].cells (by simp [hi])
/-- Two new blocks hold two statements' cells, in every world behind. -/
theorem boxes {w w1 : World} {x y : St} (hb : Below ((w.alloc (.cells #[.int .i64 x.kind, .string x.name, .int .i64 x.n, .int .i64 x.a.kind, .int .i64 x.a.n, .string x.a.name, .slice x.a.a x.a.args.length x.a.cap, .int .i64 x.b.kind, .int .i64 x.b.n, .string x.b.name, .slice x.b.a x.b.args.length x.b.cap, .slice x.ba x.body.length x.bc, .slice x.ea x.els.length x.ec, .slice x.ca x.cases.length x.cc] 43)).alloc (.cells #[.int .i64 y.kind, .string y.name, .int .i64 y.n, .int .i64 y.a.kind, .int .i64 y.a.n, .string y.a.name, .slice y.a.a y.a.args.length y.a.cap, .int .i64 y.b.kind, .int .i64 y.b.n, .string y.b.name, .slice y.b.a y.b.args.length y.b.cap, .slice y.ba y.body.length y.bc, .slice y.ea y.els.length y.ec, .slice y.ca y.cases.length y.cc] 43)).heap.size ((w.alloc (.cells #[.int .i64 x.kind, .string x.name, .int .i64 x.n, .int .i64 x.a.kind, .int .i64 x.a.n, .string x.a.name, .slice x.a.a x.a.args.length x.a.cap, .int .i64 x.b.kind, .int .i64 x.b.n, .string x.b.name, .slice x.b.a x.b.args.length x.b.cap, .slice x.ba x.body.length x.bc, .slice x.ea x.els.length x.ec, .slice x.ca x.cases.length x.cc] 43)).alloc (.cells #[.int .i64 y.kind, .string y.name, .int .i64 y.n, .int .i64 y.a.kind, .int .i64 y.a.n, .string y.a.name, .slice y.a.a y.a.args.length y.a.cap, .int .i64 y.b.kind, .int .i64 y.b.n, .string y.b.name, .slice y.b.a y.b.args.length y.b.cap, .slice y.ba y.body.length y.bc, .slice y.ea y.els.length y.ec, .slice y.ca y.cases.length y.cc] 43)) w1) : BoxS w1 w.heap.size x ∧ BoxS w1 (w.heap.size + 1) y := by
  obtain ⟨h1, h2, _⟩ := two_cells hb
  exact ⟨fun i v h => h1 i v (by simpa [St.cells] using h), fun i v h => h2 i v (by simpa [St.cells] using h)⟩

def samI : List Int → List Int → Bool
  | [], [] => true
  | x :: r, y :: t => x == y && samI r t
  | [], _ :: _ => false
  | _ :: _, [] => false
theorem samI_len : ∀ {l t : List Int}, l.length ≠ t.length → samI l t = false
  | [], [], h => by simp at h
  | [], _ :: _, _ => by simp [samI]
  | _ :: _, [], _ => by simp [samI]
  | x :: r, y :: t, h => by simp only [samI]; rw [samI_len (by simpa using h)]; simp
theorem samI_drop {l t : List Int} {j : Nat} (h : j < l.length) (h' : j < t.length) : samI (l.drop j) (t.drop j) = (l[j] == t[j] && samI (l.drop (j + 1)) (t.drop (j + 1))) := by
  rw [List.drop_eq_getElem_cons h, List.drop_eq_getElem_cons h', samI]
def samP (x y : Pa) : Bool := x.name.toList == y.name.toList && (x.lo == y.lo && x.hi == y.hi)
def samPs : List Pa → List Pa → Bool
  | [], [] => true
  | x :: r, y :: t => samP x y && samPs r t
  | [], _ :: _ => false
  | _ :: _, [] => false
theorem samPs_len : ∀ {l t : List Pa}, l.length ≠ t.length → samPs l t = false
  | [], [], h => by simp at h
  | [], _ :: _, _ => by simp [samPs]
  | _ :: _, [], _ => by simp [samPs]
  | x :: r, y :: t, h => by simp only [samPs]; rw [samPs_len (by simpa using h)]; simp
theorem samPs_drop {l t : List Pa} {j : Nat} (h : j < l.length) (h' : j < t.length) : samPs (l.drop j) (t.drop j) = (samP l[j] t[j] && samPs (l.drop (j + 1)) (t.drop (j + 1))) := by
  rw [List.drop_eq_getElem_cons h, List.drop_eq_getElem_cons h', samPs]

theorem equalIn_pa (x y : Pa) (w : World) : (Op.equalIn 10000 55 (.agg #[.string x.name, .int .i64 x.lo, .int .i64 x.hi]) (.agg #[.string y.name, .int .i64 y.lo, .int .i64 y.hi])).run Tryd.prog w = .ok (samP x y) w := by
  have u2 := Tryd.underlying2
  have a2 := Tryd.isAgg2
  have z2 := Tryd.sizeOf2
  have u9 := Tryd.underlying9
  have a9 := Tryd.isAgg9
  have z9 := Tryd.sizeOf9
  have hS : Tryd.prog.underlying 55 = some (.struct (Tryd.prog.fieldsOf 55)) := by kernel_rfl
  have hp : Tryd.prog.stoodInHeld 55 = false := by kernel_rfl
  rw [show (10000 : Nat) = 9999 + 1 from rfl, run_equalIn_agg w 9999 55 _ _ hS hp]
  simp only [Program.fieldsOf, Tryd.underlying55]
  go_simp
  unfold samP
  by_cases h1 : x.name.toList = y.name.toList <;> by_cases h2 : x.lo = y.lo <;> by_cases h3 : x.hi = y.hi <;> simp [h1, h2, h3]

def HaveP (W : World) (a : Option Addr) (c : Nat) (l : List Pa) : Prop := l.length ≤ c ∧ c * 32 ≤ 140737488351232 ∧ RowIn W a 3 (l.map Pa.cells)
def samF (x y : Fu) : Bool := x.name.toList == y.name.toList && (samPs x.params y.params && samSs x.body y.body)
def samFs : List Fu → List Fu → Bool
  | [], [] => true
  | x :: r, y :: t => samF x y && samFs r t
  | [], _ :: _ => false
  | _ :: _, [] => false
theorem samFs_len : ∀ {l t : List Fu}, l.length ≠ t.length → samFs l t = false
  | [], [], h => by simp at h
  | [], _ :: _, _ => by simp [samFs]
  | _ :: _, [], _ => by simp [samFs]
  | x :: r, y :: t, h => by simp only [samFs]; rw [samFs_len (by simpa using h)]; simp
theorem samFs_drop {l t : List Fu} {j : Nat} (h : j < l.length) (h' : j < t.length) : samFs (l.drop j) (t.drop j) = (samF l[j] t[j] && samFs (l.drop (j + 1)) (t.drop (j + 1))) := by
  rw [List.drop_eq_getElem_cons h, List.drop_eq_getElem_cons h', samFs]

theorem rowF_cells {W : World} {a : Option Addr} {l : List Fu} (h : RowIn W a 3 (l.map Fu.cells)) {i : Nat} (hi : i < l.length) :
    ∃ b o, a = some ⟨b, o, none⟩ ∧ ∀ j v, l[i].cells[j]? = some v → W.cell? ⟨b, o + (i * 3 + j), none⟩ = some v := h i l[i].cells (by simp [hi])
def HaveF (W : World) (a : Option Addr) (c : Nat) (l : List Fu) : Prop := (l.length ≤ c ∧ c * 64 ≤ 140737488351232 ∧ RowIn W a 3 (l.map Fu.cells)) ∧ ∀ x ∈ l, x.In W
def samPr (p q : Pr) : Bool := samI p.widen q.widen && samFs p.funcs q.funcs
theorem Pr.In.thr {w : World} {p : Pr} (h : p.In w) : Thr w p.wa p.wc p.widen := ⟨h.1, h.2.1, h.2.2.2.1⟩
theorem Pr.In.haveF {w : World} {p : Pr} (h : p.In w) : HaveF w p.fa p.fc p.funcs := by
  obtain ⟨_, _, _, _, _, h6, h7, _, h9, h10⟩ := h
  exact ⟨⟨h6, h7, h9⟩, h10⟩
end Go.Proofs.YtakaldbhaoidiaaDoor

/- Copies: programs without their addresses; the blocks in which a program lies; programs of which each list has a block of its own, with room for one more. -/
namespace Go.Proofs.YtakaldbhaoidiaaDoor
open Go.RowKit

/- Without addresses. -/
mutual
def Ex.er : Ex → Ex | .mk k n s _ _ l => .mk k n s none 0 (erL l)
def erL : List Ex → List Ex | [] => [] | x :: r => x.er :: erL r
end
mutual
def St.er : St → St | .mk k s n a b _ _ l _ _ e _ _ c => .mk k s n a.er b.er none 0 (erS l) none 0 (erS e) none 0 (erC c)
def Ca.er : Ca → Ca | .mk n _ _ l => .mk n none 0 (erS l)
def erS : List St → List St | [] => [] | x :: r => x.er :: erS r
def erC : List Ca → List Ca | [] => [] | x :: r => x.er :: erC r
end
def Fu.er (f : Fu) : Fu := ⟨f.name, none, 0, f.params, none, 0, erS f.body⟩
def Pr.er (p : Pr) : Pr := ⟨none, 0, p.widen, none, 0, p.funcs.map Fu.er⟩
theorem erL_map (l : List Ex) : erL l = l.map Ex.er := by induction l <;> simp_all [erL]
theorem erS_map (l : List St) : erS l = l.map St.er := by induction l <;> simp_all [erS]
theorem erC_map (l : List Ca) : erC l = l.map Ca.er := by induction l <;> simp_all [erC]
theorem Ex.er_eq (x : Ex) : x.er = .mk x.kind x.n x.name none 0 (erL x.args) := by cases x; simp only [Ex.er, Ex.kind, Ex.n, Ex.name, Ex.args]
theorem St.er_eq (s : St) : s.er = .mk s.kind s.name s.n s.a.er s.b.er none 0 (erS s.body) none 0 (erS s.els) none 0 (erC s.cases) := by
  cases s; simp only [St.er, St.kind, St.name, St.n, St.a, St.b, St.body, St.els, St.cases]
theorem Ca.er_eq (c : Ca) : c.er = .mk c.n none 0 (erS c.body) := by cases c; simp only [Ca.er, Ca.n, Ca.body]

theorem samE_er (k : Nat) : (∀ x y : Ex, x.sz ≤ k → x.er = y.er → samE x y = true) ∧ (∀ l t : List Ex, szL l ≤ k → erL l = erL t → samEs l t = true) := by
  induction k with
  | zero =>
    refine ⟨fun x y hk => by have := x.sz_args; omega, fun l t hk h => ?_⟩
    cases l with
    | nil => cases t with
      | nil => simp [samEs]
      | cons y t => simp [erL] at h
    | cons x r => rw [szL] at hk; have := x.sz_args; omega
  | succ k ih =>
    have h1 : ∀ x y : Ex, x.sz ≤ k + 1 → x.er = y.er → samE x y = true := fun x y hk h => by
      rw [x.er_eq, y.er_eq] at h
      injection h with e1 e2 e3 _ _ e6
      rw [samE_eq, e1, e2, e3, ih.2 _ _ (by have := x.sz_args; omega) e6]
      simp
    refine ⟨h1, fun l => ?_⟩
    induction l with
    | nil => intro t _ h; cases t with
      | nil => simp [samEs]
      | cons y t => simp [erL] at h
    | cons x r ihr =>
      intro t hk h
      cases t with
      | nil => simp [erL] at h
      | cons y t =>
        rw [szL] at hk
        simp only [erL, List.cons.injEq] at h
        rw [samEs, h1 x y (by omega) h.1, ihr t (by omega) h.2]; rfl

theorem samS_er (k : Nat) : (∀ x y : St, x.sz ≤ k → x.er = y.er → samS x y = true) ∧ (∀ l t : List St, ssz l ≤ k → erS l = erS t → samSs l t = true) ∧ (∀ l t : List Ca, csz l ≤ k → erC l = erC t → samCs l t = true) := by
  induction k with
  | zero =>
    refine ⟨fun x y hk => by have := x.sz_eq; omega, fun l t hk h => ?_, fun l t hk h => ?_⟩
    · cases l with
      | nil => cases t with
        | nil => simp [samSs]
        | cons y t => simp [erS] at h
      | cons x r => rw [ssz] at hk; have := x.sz_eq; omega
    · cases l with
      | nil => cases t with
        | nil => simp [samCs]
        | cons y t => simp [erC] at h
      | cons x r => rw [csz] at hk; have := x.sz_eq; omega
  | succ k ih =>
    have h1 : ∀ x y : St, x.sz ≤ k + 1 → x.er = y.er → samS x y = true := fun x y hk h => by
      rw [x.er_eq, y.er_eq] at h
      have hz := x.sz_eq
      injection h with e1 e2 e3 e4 e5 _ _ e6 _ _ e7 _ _ e8
      rw [samS_eq, e1, e2, e3, (samE_er _).1 _ _ (Nat.le_refl _) e4, (samE_er _).1 _ _ (Nat.le_refl _) e5, ih.2.1 _ _ (by omega) e6, ih.2.1 _ _ (by omega) e7, ih.2.2 _ _ (by omega) e8]
      simp
    refine ⟨h1, fun l => ?_, fun l => ?_⟩
    · induction l with
      | nil => intro t _ h; cases t with
        | nil => simp [samSs]
        | cons y t => simp [erS] at h
      | cons x r ihr =>
        intro t hk h
        cases t with
        | nil => simp [erS] at h
        | cons y t =>
          rw [ssz] at hk
          simp only [erS, List.cons.injEq] at h
          rw [samSs, h1 x y (by omega) h.1, ihr t (by omega) h.2]; rfl
    · induction l with
      | nil => intro t _ h; cases t with
        | nil => simp [samCs]
        | cons y t => simp [erC] at h
      | cons x r ihr =>
        intro t hk h
        cases t with
        | nil => simp [erC] at h
        | cons y t =>
          rw [csz] at hk
          simp only [erC, List.cons.injEq] at h
          have h2 := h.1
          rw [x.er_eq, y.er_eq] at h2
          injection h2 with e1 _ _ e4
          rw [samCs, samC_eq, e1, ih.2.1 _ _ (by have := x.sz_eq; omega) e4, ihr t (by omega) h.2]; simp
theorem samI_self (l : List Int) : samI l l = true := by induction l <;> simp_all [samI]
theorem samPs_self (l : List Pa) : samPs l l = true := by induction l <;> simp_all [samPs, samP]
theorem samPr_er {p q : Pr} (h : p.er = q.er) : samPr p q = true := by
  unfold Pr.er at h
  injection h with _ _ e1 _ _ e2
  unfold samPr
  rw [e1, samI_self, Bool.true_and]
  generalize p.funcs = l at e2
  generalize q.funcs = t at e2
  induction l generalizing t with
  | nil => cases t with
    | nil => rfl
    | cons y t => simp at e2
  | cons x r ih =>
    cases t with
    | nil => simp at e2
    | cons y t =>
      simp only [List.map_cons, List.cons.injEq] at e2
      rw [samFs, ih t e2.2, Bool.and_true]
      have := e2.1
      unfold Fu.er at this
      injection this with f1 _ _ f2 _ _ f3
      unfold samF
      rw [f1, f2, samPs_self, (samS_er _).2.1 _ _ (Nat.le_refl _) f3]; simp

/-- The blocks of a program's lists. -/
def blk : Option Addr → Nat | some a => a.block | none => 0
mutual
def Ex.bl : Ex → List Nat | .mk _ _ _ a _ l => blk a :: blL l
def blL : List Ex → List Nat | [] => [] | x :: r => x.bl ++ blL r
end
mutual
def St.bl : St → List Nat | .mk _ _ _ a b ba _ l ea _ e ca _ c => a.bl ++ (b.bl ++ (blk ba :: blS l ++ (blk ea :: blS e ++ (blk ca :: blC c))))
def Ca.bl : Ca → List Nat | .mk _ a _ l => blk a :: blS l
def blS : List St → List Nat | [] => [] | x :: r => x.bl ++ blS r
def blC : List Ca → List Nat | [] => [] | x :: r => x.bl ++ blC r
end
def Fu.bl (f : Fu) : List Nat := blk f.pa :: blk f.ba :: blS f.body
def Pr.bl (p : Pr) : List Nat := blk p.wa :: blk p.fa :: p.funcs.flatMap Fu.bl
theorem Ex.bl_eq (x : Ex) : x.bl = blk x.a :: blL x.args := by cases x; simp only [Ex.bl, Ex.a, Ex.args]
theorem St.bl_eq (s : St) : s.bl = s.a.bl ++ (s.b.bl ++ (blk s.ba :: blS s.body ++ (blk s.ea :: blS s.els ++ (blk s.ca :: blC s.cases)))) := by
  cases s; simp only [St.bl, St.a, St.b, St.ba, St.body, St.ea, St.els, St.ca, St.cases]
theorem Ca.bl_eq (c : Ca) : c.bl = blk c.ba :: blS c.body := by cases c; simp only [Ca.bl, Ca.ba, Ca.body]
theorem blL_map (l : List Ex) : blL l = l.flatMap Ex.bl := by induction l <;> simp_all [blL]
theorem blS_map (l : List St) : blS l = l.flatMap St.bl := by induction l <;> simp_all [blS]
theorem blC_map (l : List Ca) : blC l = l.flatMap Ca.bl := by induction l <;> simp_all [blC]

/-- A list has a block of its own, with room for one more, and that one is there. -/
def RowCp (W : World) (a : Option Addr) (c n B : Nat) (T : TypeId) (cs : List Value) : Prop := ∃ g, a = some ⟨g, 0, none⟩ ∧ c = n + 1 ∧ c * B ≤ 140737488351232 ∧ W.heap[g]? = some (.cells ⟨cs⟩ T (0, 0))
theorem RowCp.keep {W W' : World} {a : Option Addr} {c n B : Nat} {T : TypeId} {cs : List Value} (h : RowCp W a c n B T cs) (hk : W'.heap[blk a]? = W.heap[blk a]?) : RowCp W' a c n B T cs := by
  obtain ⟨g, rfl, h1, h2, h3⟩ := h
  exact ⟨g, rfl, h1, h2, hk.trans h3⟩
theorem flatC_at {α : Type} {f : α → List Value} {k : Nat} (hf : ∀ x, (f x).length = k) (r : List Value) : ∀ (l : List α) (i : Nat) (x : α) (j : Nat), l[i]? = some x → j < k → (l.flatMap f ++ r)[i * k + j]? = (f x)[j]?
  | [], i, x, j, h, _ => by simp at h
  | y :: l, 0, x, j, h, hj => by
    simp at h; subst h
    rw [List.flatMap_cons, List.append_assoc, List.getElem?_append_left (by rw [hf]; omega)]; simp
  | y :: l, i + 1, x, j, h, hj => by
    rw [List.flatMap_cons, List.append_assoc, List.getElem?_append_right (by rw [hf, Nat.add_mul]; omega), hf]
    have := flatC_at hf r l i x j (by simpa using h) hj
    rw [← this]; congr 1; rw [Nat.add_mul]; omega
theorem RowCp.row {W : World} {a : Option Addr} {c n B : Nat} {T : TypeId} {α : Type} {f : α → List Value} {k : Nat} {l : List α} {r : List Value} (h : RowCp W a c n B T (l.flatMap f ++ r)) (hf : ∀ x, (f x).length = k) : RowIn W a k (l.map f) := by
  obtain ⟨g, rfl, _, _, h3⟩ := h
  intro i cs hi
  rw [List.getElem?_map, Option.map_eq_some_iff] at hi
  obtain ⟨x, hx, rfl⟩ := hi
  refine ⟨g, 0, rfl, fun j v hj => ?_⟩
  have hjl := (List.getElem?_eq_some_iff.1 hj).1
  rw [hf] at hjl
  have := flatC_at hf r l i x j hx hjl
  rw [hj] at this
  simp [World.cell?, h3, this]

def senE : List Value := [.int .i64 (-77), .int .i64 0, .string ⟨#[]⟩, .slice none 0 0]
def senS : List Value := [.int .i64 (-77), .string ⟨#[]⟩, .int .i64 0, .int .i64 0, .int .i64 0, .string ⟨#[]⟩, .slice none 0 0, .int .i64 0, .int .i64 0, .string ⟨#[]⟩, .slice none 0 0, .slice none 0 0, .slice none 0 0, .slice none 0 0]
def senC : List Value := [.int .i64 (-77), .slice none 0 0]
def senP : List Value := [.string ⟨#[63]⟩, .int .i64 0, .int .i64 0]
def senF : List Value := [.string ⟨#[63]⟩, .slice none 0 0, .slice none 0 0]
mutual
def Ex.Cp (W : World) : Ex → Prop
  | .mk k n s a c l => I64 k ∧ I64 n ∧ s.size ≤ 140737488351232 ∧ RowCp W a c l.length 56 40 (l.flatMap Ex.cells ++ senE) ∧ CpL W l
def CpL (W : World) : List Ex → Prop
  | [] => True
  | x :: r => x.Cp W ∧ CpL W r
end
mutual
def St.Cp (W : World) : St → Prop
  | .mk k s n a b ba bc l ea ec e ca cc c => I64 k ∧ s.size ≤ 140737488351232 ∧ I64 n ∧ a.Cp W ∧ b.Cp W ∧ RowCp W ba bc l.length 216 43 (l.flatMap St.cells ++ senS) ∧ RowCp W ea ec e.length 216 43 (e.flatMap St.cells ++ senS) ∧ RowCp W ca cc c.length 32 58 (c.flatMap Ca.cells ++ senC) ∧ CpS W l ∧ CpS W e ∧ CpC W c
def Ca.Cp (W : World) : Ca → Prop
  | .mk n a c l => I64 n ∧ RowCp W a c l.length 216 43 (l.flatMap St.cells ++ senS) ∧ CpS W l
def CpS (W : World) : List St → Prop
  | [] => True
  | x :: r => x.Cp W ∧ CpS W r
def CpC (W : World) : List Ca → Prop
  | [] => True
  | x :: r => x.Cp W ∧ CpC W r
end
theorem cpL_mem {W : World} {l : List Ex} : CpL W l ↔ ∀ x ∈ l, x.Cp W := by induction l <;> simp_all [CpL]
theorem cpS_mem {W : World} {l : List St} : CpS W l ↔ ∀ x ∈ l, x.Cp W := by induction l <;> simp_all [CpS]
theorem cpC_mem {W : World} {l : List Ca} : CpC W l ↔ ∀ x ∈ l, x.Cp W := by induction l <;> simp_all [CpC]
theorem Ex.cp_iff {W : World} {x : Ex} : x.Cp W ↔ I64 x.kind ∧ I64 x.n ∧ x.name.size ≤ 140737488351232 ∧ RowCp W x.a x.cap x.args.length 56 40 (x.args.flatMap Ex.cells ++ senE) ∧ ∀ y ∈ x.args, y.Cp W := by
  cases x; simp only [Ex.Cp, Ex.kind, Ex.n, Ex.name, Ex.a, Ex.cap, Ex.args, cpL_mem]
theorem St.cp_iff {W : World} {s : St} : s.Cp W ↔ I64 s.kind ∧ s.name.size ≤ 140737488351232 ∧ I64 s.n ∧ s.a.Cp W ∧ s.b.Cp W ∧ RowCp W s.ba s.bc s.body.length 216 43 (s.body.flatMap St.cells ++ senS) ∧ RowCp W s.ea s.ec s.els.length 216 43 (s.els.flatMap St.cells ++ senS) ∧ RowCp W s.ca s.cc s.cases.length 32 58 (s.cases.flatMap Ca.cells ++ senC) ∧
    (∀ x ∈ s.body, x.Cp W) ∧ (∀ x ∈ s.els, x.Cp W) ∧ ∀ x ∈ s.cases, x.Cp W := by
  cases s; simp only [St.Cp, St.kind, St.name, St.n, St.a, St.b, St.ba, St.bc, St.body, St.ea, St.ec, St.els, St.ca, St.cc, St.cases, cpS_mem, cpC_mem]
theorem Ca.cp_iff {W : World} {c : Ca} : c.Cp W ↔ I64 c.n ∧ RowCp W c.ba c.bc c.body.length 216 43 (c.body.flatMap St.cells ++ senS) ∧ ∀ x ∈ c.body, x.Cp W := by
  cases c; simp only [Ca.Cp, Ca.n, Ca.ba, Ca.bc, Ca.body, cpS_mem]

theorem Ex.Cp.toIn {W : World} : ∀ (k : Nat) (x : Ex), x.sz ≤ k → x.Cp W → x.In W := by
  intro k
  induction k with
  | zero => intro x hk; have := x.sz_args; omega
  | succ k ih =>
    intro x hk h
    obtain ⟨h1, h2, h3, h4, h5⟩ := Ex.cp_iff.1 h
    have hr := h4.row (k := 4) (fun x => rfl)
    obtain ⟨g, e, e1, e2, _⟩ := h4
    refine Ex.in_iff.2 ⟨h1, h2, h3, by omega, e2, fun h => (by rw [e] at h; cases h), hr, fun y hy => ih y ?_ (h5 y hy)⟩
    have := x.sz_args; have := szL_mem hy; omega
theorem Ex.Cp.in {W : World} {x : Ex} (h : x.Cp W) : x.In W := Ex.Cp.toIn _ x (Nat.le_refl _) h
theorem cp_in {W : World} (k : Nat) : (∀ s : St, s.sz ≤ k → s.Cp W → s.In W) ∧ (∀ c : Ca, c.sz ≤ k → c.Cp W → c.In W) := by
  induction k with
  | zero => exact ⟨fun s h => by have := s.sz_eq; omega, fun c h => by have := c.sz_eq; omega⟩
  | succ k ih =>
    have lies : ∀ {a : Option Addr} {c : Nat} {l : List St}, RowCp W a c l.length 216 43 (l.flatMap St.cells ++ senS) → Lies W a c l := fun {a c l} h => by
      have hr := h.row (k := 14) (fun x => rfl)
      obtain ⟨g, e, e1, e2, _⟩ := h
      exact ⟨by omega, by omega, fun h => (by rw [e] at h; cases h), hr⟩
    refine ⟨fun s hk h => ?_, fun c hk h => ?_⟩
    · obtain ⟨h1, h2, h3, h4, h5, h6, h7, h8, h9, h10, h11⟩ := St.cp_iff.1 h
      have := s.sz_eq
      have hr := h8.row (k := 2) (fun x => rfl)
      obtain ⟨g, e, e1, e2, _⟩ := h8
      refine St.in_iff.2 ⟨h1, h2, h3, h4.in, h5.in, ⟨lies h6, fun x hx => ih.1 x ?_ (h9 x hx)⟩, ⟨lies h7, fun x hx => ih.1 x ?_ (h10 x hx)⟩, ⟨by omega, e2, fun h => (by rw [e] at h; cases h), hr⟩, fun x hx => ih.2 x ?_ (h11 x hx)⟩
      · have := ssz_mem hx; omega
      · have := ssz_mem hx; omega
      · have := csz_mem hx; omega
    · obtain ⟨h1, h2, h3⟩ := Ca.cp_iff.1 h
      have := c.sz_eq
      refine Ca.in_iff.2 ⟨h1, lies h2, fun x hx => ih.1 x ?_ (h3 x hx)⟩
      have := ssz_mem hx; omega
theorem St.Cp.in {W : World} {s : St} (h : s.Cp W) : s.In W := (cp_in _).1 s (Nat.le_refl _) h

/-- What lies in blocks that are as they were is there as it was. -/
theorem Ex.Cp.keep {W W' : World} : ∀ (k : Nat) (x : Ex), x.sz ≤ k → x.Cp W → (∀ b ∈ x.bl, W'.heap[b]? = W.heap[b]?) → x.Cp W' := by
  intro k
  induction k with
  | zero => intro x hk; have := x.sz_args; omega
  | succ k ih =>
    intro x hk h hb
    obtain ⟨h1, h2, h3, h4, h5⟩ := Ex.cp_iff.1 h
    rw [x.bl_eq] at hb
    refine Ex.cp_iff.2 ⟨h1, h2, h3, h4.keep (hb _ (List.mem_cons_self ..)), fun y hy => ih y ?_ (h5 y hy) (fun b hbb => hb b (List.mem_cons_of_mem _ ?_))⟩
    · have := x.sz_args; have := szL_mem hy; omega
    · rw [blL_map]; exact List.mem_flatMap.2 ⟨y, hy, hbb⟩
theorem Ex.Cp.kept {W W' : World} {x : Ex} (h : x.Cp W) (hb : ∀ b ∈ x.bl, W'.heap[b]? = W.heap[b]?) : x.Cp W' := Ex.Cp.keep _ x (Nat.le_refl _) h hb
theorem cp_keep {W W' : World} (k : Nat) : (∀ s : St, s.sz ≤ k → s.Cp W → (∀ b ∈ s.bl, W'.heap[b]? = W.heap[b]?) → s.Cp W') ∧ (∀ c : Ca, c.sz ≤ k → c.Cp W → (∀ b ∈ c.bl, W'.heap[b]? = W.heap[b]?) → c.Cp W') := by
  induction k with
  | zero => exact ⟨fun s h => by have := s.sz_eq; omega, fun c h => by have := c.sz_eq; omega⟩
  | succ k ih =>
    refine ⟨fun s hk h hb => ?_, fun c hk h hb => ?_⟩
    · obtain ⟨h1, h2, h3, h4, h5, h6, h7, h8, h9, h10, h11⟩ := St.cp_iff.1 h
      have := s.sz_eq
      rw [s.bl_eq] at hb
      simp only [List.mem_append, List.mem_cons, List.cons_append] at hb
      refine St.cp_iff.2 ⟨h1, h2, h3, h4.kept fun b h => hb b (by simp [h]), h5.kept fun b h => hb b (by simp [h]), h6.keep (hb _ (by simp)), h7.keep (hb _ (by simp)), h8.keep (hb _ (by simp)), fun x hx => ih.1 x ?_ (h9 x hx) fun b h => hb b ?_, fun x hx => ih.1 x ?_ (h10 x hx) fun b h => hb b ?_, fun x hx => ih.2 x ?_ (h11 x hx) fun b h => hb b ?_⟩
      · have := ssz_mem hx; omega
      · have : b ∈ blS s.body := by rw [blS_map]; exact List.mem_flatMap.2 ⟨x, hx, h⟩
        simp [this]
      · have := ssz_mem hx; omega
      · have : b ∈ blS s.els := by rw [blS_map]; exact List.mem_flatMap.2 ⟨x, hx, h⟩
        simp [this]
      · have := csz_mem hx; omega
      · have : b ∈ blC s.cases := by rw [blC_map]; exact List.mem_flatMap.2 ⟨x, hx, h⟩
        simp [this]
    · obtain ⟨h1, h2, h3⟩ := Ca.cp_iff.1 h
      have := c.sz_eq
      rw [c.bl_eq] at hb
      refine Ca.cp_iff.2 ⟨h1, h2.keep (hb _ (List.mem_cons_self ..)), fun x hx => ih.1 x ?_ (h3 x hx) fun b h => hb b (List.mem_cons_of_mem _ ?_)⟩
      · have := ssz_mem hx; omega
      · rw [blS_map]; exact List.mem_flatMap.2 ⟨x, hx, h⟩
theorem St.Cp.kept {W W' : World} {s : St} (h : s.Cp W) (hb : ∀ b ∈ s.bl, W'.heap[b]? = W.heap[b]?) : s.Cp W' := (cp_keep _).1 s (Nat.le_refl _) h hb
theorem Ca.Cp.kept {W W' : World} {c : Ca} (h : c.Cp W) (hb : ∀ b ∈ c.bl, W'.heap[b]? = W.heap[b]?) : c.Cp W' := (cp_keep _).2 c (Nat.le_refl _) h hb
end Go.Proofs.YtakaldbhaoidiaaDoor

/- What a call may turn: one block alone; blocks that hold an expression or a statement. -/
namespace Go.Proofs.YtakaldbhaoidiaaDoor
open Go.RowKit Go.Sort

/-- All but one block lies as it did. -/
def OnlyB (b : Nat) (W W' : World) : Prop := W'.os = W.os ∧ W'.tape = W.tape ∧ W'.output = W.output ∧ W.heap.size ≤ W'.heap.size ∧ ∀ k, k < W.heap.size → k ≠ b → W'.heap[k]? = W.heap[k]?
theorem OnlyB.refl (b : Nat) (W : World) : OnlyB b W W := ⟨rfl, rfl, rfl, Nat.le_refl _, fun _ _ _ => rfl⟩
theorem OnlyB.trans {b : Nat} {A B C : World} (h : OnlyB b A B) (k : OnlyB b B C) : OnlyB b A C := ⟨k.1.trans h.1, k.2.1.trans h.2.1, k.2.2.1.trans h.2.2.1, Nat.le_trans h.2.2.2.1 k.2.2.2.1, fun i h1 h2 => (k.2.2.2.2 i (Nat.lt_of_lt_of_le h1 h.2.2.2.1) h2).trans (h.2.2.2.2 i h1 h2)⟩
theorem OnlyB.size {b : Nat} {A B : World} (h : OnlyB b A B) : A.heap.size ≤ B.heap.size := h.2.2.2.1
theorem OnlyB.of_below {b : Nat} {A B : World} (h : Below A.heap.size A B) : OnlyB b A B := ⟨h.os, h.tape, h.output, h.size, fun i h1 _ => h.block i h1⟩
theorem OnlyB.set {b : Nat} {A B : World} (h : OnlyB b A B) (i : Nat) (v : Value) : OnlyB b A (B.setCell ⟨b, i, none⟩ v) := h.trans ⟨rfl, rfl, rfl, by simp [World.setCell], fun k _ h2 => Below.heap_setCell _ _ _ _ h2⟩
theorem OnlyB.below {b : Nat} {A B : World} {N : Nat} (h : OnlyB b A B) (hb : N ≤ b) (hN : N ≤ A.heap.size) : Below N A B := ⟨h.1, h.2.1, h.2.2.1, h.2.2.2.1, fun k hk => h.2.2.2.2 k (by omega) (by omega)⟩
theorem OnlyB.cell {b : Nat} {A B : World} (h : OnlyB b A B) {k i : Nat} (hk : k < A.heap.size) (hb : k ≠ b) : B.cell? ⟨k, i, none⟩ = A.cell? ⟨k, i, none⟩ := by
  have := h.2.2.2.2 k hk hb
  simp only [World.cell?, this]
theorem OnlyB.alloc {b : Nat} {A B : World} (h : OnlyB b A B) (o : Obj) : OnlyB b A (B.alloc o) := h.trans (OnlyB.of_below ((Below.refl _ B).alloc (Nat.le_refl _) o))
/-- From a world in which programs lie, on to one that has more, but for the look's block. -/
theorem OnlyB.on {b : Nat} {W0 A B : World} (hB : Below W0.heap.size W0 A) (hb : W0.heap.size ≤ b) (h : OnlyB b A B) : Below W0.heap.size W0 B := hB.trans (h.below hb hB.size)
/-- A block that holds an expression's cells. -/
def BoxE (W : World) (B : Nat) (x : Ex) : Prop := ∀ (i : Nat) v, x.cells[i]? = some v → W.cell? ⟨B, i, none⟩ = some v
theorem BoxE.only {W W' : World} {B b : Nat} {x : Ex} (h : BoxE W B x) (ho : OnlyB b W W') (hB : B < W.heap.size) (hb : B ≠ b) : BoxE W' B x := fun i v hi => (ho.cell hB hb).trans (h i v hi)
theorem boxE_new (w : World) (x : Ex) : BoxE (w.alloc (.cells #[.int .i64 x.kind, .int .i64 x.n, .string x.name, .slice x.a x.args.length x.cap] 40)) w.heap.size x := by
  intro i v h
  rw [World.cell?_alloc_at _ _ _ _ rfl]; simpa [Ex.cells] using h
theorem BoxS.only {W W' : World} {B b : Nat} {s : St} (h : BoxS W B s) (ho : OnlyB b W W') (hB : B < W.heap.size) (hb : B ≠ b) : BoxS W' B s := fun i v hi => (ho.cell hB hb).trans (h i v hi)
end Go.Proofs.YtakaldbhaoidiaaDoor
