/- checkExpr: what is wrong first with an expression. -/
import Derived.Test.YtbpemackmadhgaaDoorC2
namespace Go.Proofs.YtbpemackmadhgaaDoor
open Go.RowKit Go.Sort

def nameZ (s : ByteArray) : Bool := nameB s.data.toList
/-- The tests on an expression's own fields, in their order. -/
def selfE (x : Ex) : Int :=
  if isE x.kind = false then 5
  else if (bits .andNot .i64 (usesE x) (formE x.kind.toNat).fields != 0) = true then 5
  else if ((formE x.kind.toNat).args != -1 && ((x.args.length : Int) != (formE x.kind.toNat).args)) = true then 5
  else if (bits .and .i64 (formE x.kind.toNat).fields 1 != 0 && !nameZ x.name) = true then 8
  else if x.n < 0 then 1 else 0
mutual
def chkE : Ex → Int → Int
  | .mk k n s a c l, lv => if 32 < lv then 20 else if selfE (.mk k n s a c l) ≠ 0 then selfE (.mk k n s a c l) else chkL l (lv + 1)
def chkL : List Ex → Int → Int
  | [], _ => 0
  | x :: r, lv => if chkE x lv ≠ 0 then chkE x lv else chkL r lv
end
theorem chkE_eq (x : Ex) (lv : Int) : chkE x lv = if 32 < lv then 20 else if selfE x ≠ 0 then selfE x else chkL x.args (lv + 1) := by cases x; simp only [chkE, Ex.args]
theorem chkL_drop {l : List Ex} {j : Nat} {lv : Int} (h : j < l.length) : chkL (l.drop j) lv = if chkE l[j] lv ≠ 0 then chkE l[j] lv else chkL (l.drop (j + 1)) lv := by
  rw [List.drop_eq_getElem_cons h, chkL]

set_option maxRecDepth 100000 in
set_option maxHeartbeats 4000000 in
theorem checkExpr_k (k : Nat) : ∀ (x : Ex) (lv : Int) (w : World), x.sz ≤ k → x.In w → Tabs w → 0 ≤ lv → lv ≤ 64 →
    Calls Tryd.prog 78 #[x.val, .int .i64 lv] w fun e w' => e = .returned (.int .i64 (chkE x lv)) ∧ Below w.heap.size w w' := by
  induction k with
  | zero => intro x n w hk; have := x.sz_args; omega
  | succ k ih =>
    intro x lv w hk hin ht h0 h1
    have hin' := Ex.in_iff.1 hin
    obtain ⟨_, _, _, hl, hc, _, hrow, hsub⟩ := hin'
    have hszl : szL x.args ≤ k := by have := x.sz_args; omega
    have IH : Hid (∀ (x : Ex) (lv : Int) (w : World), x.sz ≤ k → x.In w → Tabs w → 0 ≤ lv → lv ≤ 64 →
      Calls Tryd.prog 78 #[x.val, .int .i64 lv] w fun e w' => e = .returned (.int .i64 (chkE x lv)) ∧ Below w.heap.size w w') := ih
    have HS : Hid (∀ (y : Ex), y ∈ x.args → Ex.In w y) := hsub
    have HR : Hid (RowIn w x.a 4 (List.map Ex.cells x.args)) := hrow
    have HI : Hid (∀ w, Calls Tryd.prog 90 #[.int .i64 x.kind] w fun e w' => e = .returned (.bool (isE x.kind)) ∧ w' = w) := fun w => isExpr_any x.kind w
    have HU : Hid (∀ w, Calls Tryd.prog 61 #[x.val] w fun e w' => e = .returned (.int .i64 (usesE x)) ∧ Below w.heap.size w w') := fun w => exprUses_any x w
    have HN : Hid (∀ w, Calls Tryd.prog 59 #[.string x.name] w fun e w' => e = .returned (.bool (nameZ x.name)) ∧ w' = w) := fun w => name_any x.name w
    have HT : Hid (Tabs w) := ht
    clear ih hsub hrow hin hk ht
    have HE : Hid (chkE x lv = if 32 < lv then 20 else if selfE x ≠ 0 then selfE x else chkL x.args (lv + 1)) := chkE_eq x lv
    generalize chkE x lv = res at HE ⊢
    unfold Ex.val at HU ⊢
    by_cases hlv : 32 < lv
    · go_enter Tryd.func78, Tryd.ntmps78
      go_wp2_with fail
      go_ret
      exact ⟨ret_int (by rw [HE.out, if_pos hlv]), (Below.refl _ w).alloc (Nat.le_refl _) _⟩
    · cases hk : isE x.kind
      · rw [hk] at HI
        go_enter Tryd.func78, Tryd.ntmps78
        go_wp2_with (go_at_call 90; refine (HI.out _).mono ?_; rintro e w' ⟨rfl, rfl⟩)
        go_ret
        exact ⟨ret_int (by rw [HE.out, if_neg (by omega)]; simp [selfE, hk]), (Below.refl _ w).alloc (Nat.le_refl _) _⟩
      · rw [hk] at HI
        obtain ⟨kd, n, s, a, c, l⟩ := x
        simp only [Ex.kind, Ex.n, Ex.name, Ex.a, Ex.cap, Ex.args] at *
        obtain ⟨kn, rfl⟩ : ∃ kn : Nat, kd = kn := ⟨kd.toNat, by simp [isE] at hk; omega⟩
        have hkn : kn < 21 := by simp [isE] at hk; omega
        have HE2 : Hid (∀ b, selfE (.mk kn n s a c l) = b → res = if b ≠ 0 then b else chkL l (lv + 1)) := by
          show ∀ b, _ → _; rintro b rfl; rw [HE.out, if_neg (by omega)]
        have HSE : Hid (selfE (.mk kn n s a c l) = if (bits .andNot .i64 (usesE (.mk kn n s a c l)) (formE kn).fields != 0) = true then 5 else if ((formE kn).args != -1 && ((l.length : Int) != (formE kn).args)) = true then 5 else if (bits .and .i64 (formE kn).fields 1 != 0 && !nameZ s) = true then 8 else if n < 0 then 1 else 0) := by
          show _ = _; unfold selfE; simp only [Ex.kind, Ex.n, Ex.name, Ex.args, hk, Bool.true_eq_false, if_false, Int.toNat_natCast]; rfl
        have hcell := HT.out.2 kn hkn
        obtain ⟨t0, t1, t2, t3⟩ := hcell
        clear HE hk
        have h1w : 1 < w.heap.size := lt_of_cell t0
        generalize usesE (.mk kn n s a c l) = us at HU HSE
        generalize formE kn = fm at t0 t1 t2 t3 HSE
        go_enter Tryd.func78, Tryd.ntmps78
        go_wp2_with (go_at_call 90; refine (HI.out _).mono ?_; rintro e w' ⟨rfl, rfl⟩)
        obtain ⟨W2, hW2⟩ : ∃ W2, (w.alloc (.cells #[.int .i64 kn, .int .i64 n, .string s, .slice a l.length c] 39)).alloc (.cells #[.int .i64 fm.fields, .int .i64 fm.args, .int .i64 fm.rank, .string fm.sign] 131) = W2 := ⟨_, rfl⟩
        have BX : ∀ (j : Nat) v, ([.int .i64 kn, .int .i64 n, .string s, .slice a l.length c] : List Value)[j]? = some v → W2.cell? ⟨w.heap.size, j, none⟩ = some v := by
          intro j v h
          rw [← hW2, World.cell?_alloc_past _ _ _ (by simp), World.cell?_alloc_at _ _ _ _ rfl]; simpa using h
        have BF : ∀ (j : Nat) v, ([.int .i64 fm.fields, .int .i64 fm.args, .int .i64 fm.rank, .string fm.sign] : List Value)[j]? = some v → W2.cell? ⟨w.heap.size + 1, j, none⟩ = some v := by
          intro j v h
          rw [← hW2, World.cell?_alloc_at _ _ _ _ (by simp)]; simpa using h
        have hb2 : Below w.heap.size w W2 := by rw [← hW2]; exact ((Below.refl _ w).alloc (Nat.le_refl _) _).alloc (by simp) _
        have hs2 : w.heap.size + 1 + 1 ≤ W2.heap.size := by rw [← hW2]; simp
        rw [hW2]
        clear hW2 t0 t1 t2 t3
        have x0 := cell_regrown (BX 0 _ rfl)
        have x1 := cell_regrown (BX 1 _ rfl)
        have x2 := cell_regrown (BX 2 _ rfl)
        have x3 := cell_regrown (BX 3 _ rfl)
        have f0 := cell_regrown (BF 0 _ rfl)
        have f1 := cell_regrown (BF 1 _ rfl)
        clear BX BF
        refine wp_region_quiet_below (by kernel_rfl) (by kernel_rfl) ?_
        repeat (go_big_quiet_step ((go_at_call 61; exact Calls.regrown_of (HU.out _))))
        refine wpQuiet_nil ?_
        intro _ hw'
        obtain ⟨⟨dq, osq⟩, hw''⟩ := hw'
        subst hw''
        have y0 := x0 dq osq
        have y1 := x1 dq osq
        have y2 := x2 dq osq
        have y3 := x3 dq osq
        have z0 := f0 dq osq
        have z1 := f1 dq osq
        have hb3 : Below w.heap.size w (grow (redrawn W2 dq) osq) := hb2.trans ((below_regrown W2 dq osq).mono (by omega))
        clear x0 x1 x2 x3 f0 f1
        generalize grow (redrawn W2 dq) osq = W3 at *
        clear hb2 hs2
        cases e1 : (bits .andNot .i64 us fm.fields != 0)
        · cases e2 : (fm.args != -1)
          · skip
            cases e4 : (bits .and .i64 fm.fields 1 != 0)
            · skip
              by_cases e6 : n < 0
              · skip
                have HF : Hid (res = 1) := (by rw [HE2.out 1 (by rw [HSE.out, e1, e2, e4]; simp only [e6, if_true]; rfl)]; rfl : res = 1)
                go_wp2_with (go_at_call 59; refine (HN.out _).mono ?_; rintro e w' ⟨rfl, rfl⟩)
                go_ret
                exact ⟨ret_int HF.out.symm, hb3⟩
              · skip
                have HF : Hid (res = chkL l (lv + 1)) := (by rw [HE2.out 0 (by rw [HSE.out, e1, e2, e4]; simp only [e6, if_false]; rfl)]; rfl : res = chkL l (lv + 1))
                clear HSE HE2 HU HI
                go_wp2_with (go_at_call 59; refine (HN.out _).mono ?_; rintro e w' ⟨rfl, rfl⟩)
                go_loopw [56] (fun t56 wr => ∃ (j : Nat), j ≤ l.length ∧ t56 = .int .i64 j ∧ chkL (l.drop j) (lv + 1) = chkL l (lv + 1) ∧ Below w.heap.size w wr) (fun t56 _ => l.length - (intOf t56).toNat)
                case atStart => exact ⟨0, Nat.zero_le _, rfl, rfl, hb3⟩
                case round =>
                  obtain ⟨j, hj, rfl, hcnt, hb⟩ := hrel
                  have HC : Hid (chkL (l.drop j) (lv + 1) = res) := hcnt.trans HF.out.symm
                  clear hcnt y0 y1 y2 y3 z0 z1
                  have hws := hb.size
                  by_cases hlt : j < l.length
                  · obtain ⟨b, o, rfl, c0, c1, c2, c3⟩ := row_at (HR.out.below hb) hlt
                    have hli : (j : Int) < (l.length : Int) := by omega
                    have hsy := szL_mem (List.getElem_mem hlt)
                    have HY : Hid (Ex.In w l[j]) := HS.out l[j] (List.getElem_mem hlt)
                    have HZ : Hid (l[j].sz ≤ k) := (by omega : l[j].sz ≤ k)
                    have HD : Hid (chkL (l.drop j) (lv + 1) = if chkE l[j] (lv + 1) ≠ 0 then chkE l[j] (lv + 1) else chkL (l.drop (j + 1)) (lv + 1)) := chkL_drop hlt
                    clear hsy
                    generalize l[j] = y at *
                    go_wp2_with fail
                    refine (IH.out y (lv + 1) _ HZ.out (HY.out.stay (hb.alloc hws _)) (HT.out.stay (hb.alloc hws _)) (by omega) (by omega)).mono ?_
                    rintro e w' ⟨rfl, hb'⟩
                    have hb4 : Below w.heap.size w w' := (hb.alloc hws _).trans (hb'.mono (by simp; omega))
                    generalize chkE y (lv + 1) = v at HD ⊢
                    cases ev : (v != 0)
                    · go_wp2_with fail
                      go_roundw
                      case rel => exact ⟨j + 1, by omega, by go_num, by rw [← HF.out, ← HC.out, HD.out, if_neg (by simpa using ev)], hb4⟩
                      case measure => simp [intOf]; omega
                    · go_wp2_with fail
                      go_ret
                      exact ⟨ret_int (by rw [← HC.out, HD.out, if_pos (by simpa using ev)]), hb4⟩
                  · go_wp2_with fail
                    go_ret
                    exact ⟨ret_int (by rw [← HC.out, List.drop_eq_nil_of_le (by omega), chkL]), hb⟩
            · cases e5 : nameZ s
              · rw [e5] at HN
                have HF : Hid (res = 8) := (by rw [HE2.out 8 (by rw [HSE.out, e1, e2, e4, e5]; rfl)]; rfl : res = 8)
                go_wp2_with (go_at_call 59; refine (HN.out _).mono ?_; rintro e w' ⟨rfl, rfl⟩)
                go_ret
                exact ⟨ret_int HF.out.symm, hb3⟩
              · rw [e5] at HN
                by_cases e6 : n < 0
                · skip
                  have HF : Hid (res = 1) := (by rw [HE2.out 1 (by rw [HSE.out, e1, e2, e4, e5]; simp only [e6, if_true]; rfl)]; rfl : res = 1)
                  go_wp2_with (go_at_call 59; refine (HN.out _).mono ?_; rintro e w' ⟨rfl, rfl⟩)
                  go_ret
                  exact ⟨ret_int HF.out.symm, hb3⟩
                · skip
                  have HF : Hid (res = chkL l (lv + 1)) := (by rw [HE2.out 0 (by rw [HSE.out, e1, e2, e4, e5]; simp only [e6, if_false]; rfl)]; rfl : res = chkL l (lv + 1))
                  clear HSE HE2 HU HI
                  go_wp2_with (go_at_call 59; refine (HN.out _).mono ?_; rintro e w' ⟨rfl, rfl⟩)
                  go_loopw [56] (fun t56 wr => ∃ (j : Nat), j ≤ l.length ∧ t56 = .int .i64 j ∧ chkL (l.drop j) (lv + 1) = chkL l (lv + 1) ∧ Below w.heap.size w wr) (fun t56 _ => l.length - (intOf t56).toNat)
                  case atStart => exact ⟨0, Nat.zero_le _, rfl, rfl, hb3⟩
                  case round =>
                    obtain ⟨j, hj, rfl, hcnt, hb⟩ := hrel
                    have HC : Hid (chkL (l.drop j) (lv + 1) = res) := hcnt.trans HF.out.symm
                    clear hcnt y0 y1 y2 y3 z0 z1
                    have hws := hb.size
                    by_cases hlt : j < l.length
                    · obtain ⟨b, o, rfl, c0, c1, c2, c3⟩ := row_at (HR.out.below hb) hlt
                      have hli : (j : Int) < (l.length : Int) := by omega
                      have hsy := szL_mem (List.getElem_mem hlt)
                      have HY : Hid (Ex.In w l[j]) := HS.out l[j] (List.getElem_mem hlt)
                      have HZ : Hid (l[j].sz ≤ k) := (by omega : l[j].sz ≤ k)
                      have HD : Hid (chkL (l.drop j) (lv + 1) = if chkE l[j] (lv + 1) ≠ 0 then chkE l[j] (lv + 1) else chkL (l.drop (j + 1)) (lv + 1)) := chkL_drop hlt
                      clear hsy
                      generalize l[j] = y at *
                      go_wp2_with fail
                      refine (IH.out y (lv + 1) _ HZ.out (HY.out.stay (hb.alloc hws _)) (HT.out.stay (hb.alloc hws _)) (by omega) (by omega)).mono ?_
                      rintro e w' ⟨rfl, hb'⟩
                      have hb4 : Below w.heap.size w w' := (hb.alloc hws _).trans (hb'.mono (by simp; omega))
                      generalize chkE y (lv + 1) = v at HD ⊢
                      cases ev : (v != 0)
                      · go_wp2_with fail
                        go_roundw
                        case rel => exact ⟨j + 1, by omega, by go_num, by rw [← HF.out, ← HC.out, HD.out, if_neg (by simpa using ev)], hb4⟩
                        case measure => simp [intOf]; omega
                      · go_wp2_with fail
                        go_ret
                        exact ⟨ret_int (by rw [← HC.out, HD.out, if_pos (by simpa using ev)]), hb4⟩
                    · go_wp2_with fail
                      go_ret
                      exact ⟨ret_int (by rw [← HC.out, List.drop_eq_nil_of_le (by omega), chkL]), hb⟩
          · cases e3 : ((l.length : Int) != fm.args)
            · skip
              cases e4 : (bits .and .i64 fm.fields 1 != 0)
              · skip
                by_cases e6 : n < 0
                · skip
                  have HF : Hid (res = 1) := (by rw [HE2.out 1 (by rw [HSE.out, e1, e2, e3, e4]; simp only [e6, if_true]; rfl)]; rfl : res = 1)
                  go_wp2_with (go_at_call 59; refine (HN.out _).mono ?_; rintro e w' ⟨rfl, rfl⟩)
                  go_ret
                  exact ⟨ret_int HF.out.symm, hb3⟩
                · skip
                  have HF : Hid (res = chkL l (lv + 1)) := (by rw [HE2.out 0 (by rw [HSE.out, e1, e2, e3, e4]; simp only [e6, if_false]; rfl)]; rfl : res = chkL l (lv + 1))
                  clear HSE HE2 HU HI
                  go_wp2_with (go_at_call 59; refine (HN.out _).mono ?_; rintro e w' ⟨rfl, rfl⟩)
                  go_loopw [56] (fun t56 wr => ∃ (j : Nat), j ≤ l.length ∧ t56 = .int .i64 j ∧ chkL (l.drop j) (lv + 1) = chkL l (lv + 1) ∧ Below w.heap.size w wr) (fun t56 _ => l.length - (intOf t56).toNat)
                  case atStart => exact ⟨0, Nat.zero_le _, rfl, rfl, hb3⟩
                  case round =>
                    obtain ⟨j, hj, rfl, hcnt, hb⟩ := hrel
                    have HC : Hid (chkL (l.drop j) (lv + 1) = res) := hcnt.trans HF.out.symm
                    clear hcnt y0 y1 y2 y3 z0 z1
                    have hws := hb.size
                    by_cases hlt : j < l.length
                    · obtain ⟨b, o, rfl, c0, c1, c2, c3⟩ := row_at (HR.out.below hb) hlt
                      have hli : (j : Int) < (l.length : Int) := by omega
                      have hsy := szL_mem (List.getElem_mem hlt)
                      have HY : Hid (Ex.In w l[j]) := HS.out l[j] (List.getElem_mem hlt)
                      have HZ : Hid (l[j].sz ≤ k) := (by omega : l[j].sz ≤ k)
                      have HD : Hid (chkL (l.drop j) (lv + 1) = if chkE l[j] (lv + 1) ≠ 0 then chkE l[j] (lv + 1) else chkL (l.drop (j + 1)) (lv + 1)) := chkL_drop hlt
                      clear hsy
                      generalize l[j] = y at *
                      go_wp2_with fail
                      refine (IH.out y (lv + 1) _ HZ.out (HY.out.stay (hb.alloc hws _)) (HT.out.stay (hb.alloc hws _)) (by omega) (by omega)).mono ?_
                      rintro e w' ⟨rfl, hb'⟩
                      have hb4 : Below w.heap.size w w' := (hb.alloc hws _).trans (hb'.mono (by simp; omega))
                      generalize chkE y (lv + 1) = v at HD ⊢
                      cases ev : (v != 0)
                      · go_wp2_with fail
                        go_roundw
                        case rel => exact ⟨j + 1, by omega, by go_num, by rw [← HF.out, ← HC.out, HD.out, if_neg (by simpa using ev)], hb4⟩
                        case measure => simp [intOf]; omega
                      · go_wp2_with fail
                        go_ret
                        exact ⟨ret_int (by rw [← HC.out, HD.out, if_pos (by simpa using ev)]), hb4⟩
                    · go_wp2_with fail
                      go_ret
                      exact ⟨ret_int (by rw [← HC.out, List.drop_eq_nil_of_le (by omega), chkL]), hb⟩
              · cases e5 : nameZ s
                · rw [e5] at HN
                  have HF : Hid (res = 8) := (by rw [HE2.out 8 (by rw [HSE.out, e1, e2, e3, e4, e5]; rfl)]; rfl : res = 8)
                  go_wp2_with (go_at_call 59; refine (HN.out _).mono ?_; rintro e w' ⟨rfl, rfl⟩)
                  go_ret
                  exact ⟨ret_int HF.out.symm, hb3⟩
                · rw [e5] at HN
                  by_cases e6 : n < 0
                  · skip
                    have HF : Hid (res = 1) := (by rw [HE2.out 1 (by rw [HSE.out, e1, e2, e3, e4, e5]; simp only [e6, if_true]; rfl)]; rfl : res = 1)
                    go_wp2_with (go_at_call 59; refine (HN.out _).mono ?_; rintro e w' ⟨rfl, rfl⟩)
                    go_ret
                    exact ⟨ret_int HF.out.symm, hb3⟩
                  · skip
                    have HF : Hid (res = chkL l (lv + 1)) := (by rw [HE2.out 0 (by rw [HSE.out, e1, e2, e3, e4, e5]; simp only [e6, if_false]; rfl)]; rfl : res = chkL l (lv + 1))
                    clear HSE HE2 HU HI
                    go_wp2_with (go_at_call 59; refine (HN.out _).mono ?_; rintro e w' ⟨rfl, rfl⟩)
                    go_loopw [56] (fun t56 wr => ∃ (j : Nat), j ≤ l.length ∧ t56 = .int .i64 j ∧ chkL (l.drop j) (lv + 1) = chkL l (lv + 1) ∧ Below w.heap.size w wr) (fun t56 _ => l.length - (intOf t56).toNat)
                    case atStart => exact ⟨0, Nat.zero_le _, rfl, rfl, hb3⟩
                    case round =>
                      obtain ⟨j, hj, rfl, hcnt, hb⟩ := hrel
                      have HC : Hid (chkL (l.drop j) (lv + 1) = res) := hcnt.trans HF.out.symm
                      clear hcnt y0 y1 y2 y3 z0 z1
                      have hws := hb.size
                      by_cases hlt : j < l.length
                      · obtain ⟨b, o, rfl, c0, c1, c2, c3⟩ := row_at (HR.out.below hb) hlt
                        have hli : (j : Int) < (l.length : Int) := by omega
                        have hsy := szL_mem (List.getElem_mem hlt)
                        have HY : Hid (Ex.In w l[j]) := HS.out l[j] (List.getElem_mem hlt)
                        have HZ : Hid (l[j].sz ≤ k) := (by omega : l[j].sz ≤ k)
                        have HD : Hid (chkL (l.drop j) (lv + 1) = if chkE l[j] (lv + 1) ≠ 0 then chkE l[j] (lv + 1) else chkL (l.drop (j + 1)) (lv + 1)) := chkL_drop hlt
                        clear hsy
                        generalize l[j] = y at *
                        go_wp2_with fail
                        refine (IH.out y (lv + 1) _ HZ.out (HY.out.stay (hb.alloc hws _)) (HT.out.stay (hb.alloc hws _)) (by omega) (by omega)).mono ?_
                        rintro e w' ⟨rfl, hb'⟩
                        have hb4 : Below w.heap.size w w' := (hb.alloc hws _).trans (hb'.mono (by simp; omega))
                        generalize chkE y (lv + 1) = v at HD ⊢
                        cases ev : (v != 0)
                        · go_wp2_with fail
                          go_roundw
                          case rel => exact ⟨j + 1, by omega, by go_num, by rw [← HF.out, ← HC.out, HD.out, if_neg (by simpa using ev)], hb4⟩
                          case measure => simp [intOf]; omega
                        · go_wp2_with fail
                          go_ret
                          exact ⟨ret_int (by rw [← HC.out, HD.out, if_pos (by simpa using ev)]), hb4⟩
                      · go_wp2_with fail
                        go_ret
                        exact ⟨ret_int (by rw [← HC.out, List.drop_eq_nil_of_le (by omega), chkL]), hb⟩
            · skip
              have HF : Hid (res = 5) := (by rw [HE2.out 5 (by rw [HSE.out, e1, e2, e3]; rfl)]; rfl : res = 5)
              go_wp2_with (go_at_call 59; refine (HN.out _).mono ?_; rintro e w' ⟨rfl, rfl⟩)
              go_ret
              exact ⟨ret_int HF.out.symm, hb3⟩
        · go_wp2_with fail
          go_ret
          exact ⟨ret_int (by rw [HE2.out 5 (by rw [HSE.out, e1]; rfl)]; rfl), hb3⟩
end Go.Proofs.YtbpemackmadhgaaDoor
