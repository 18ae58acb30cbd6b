/- checkExpr: what is wrong first with an expression. -/
import Derived.Test.YtkkcgkpbbngloaaGreatDoorPart1
import Derived.Maps.OwnSet
import Derived.Maps.Views
import Derived.Deep.LoopGhost
import Derived.Maps.AppendAt
import Derived.Lib.SmallJoins
import Derived.Lib.QuietBelow
namespace Go.Proofs.YtkkcgkpbbngloaaGreatDoor
open Go.RowKit Go.Sort

def nameZ (s : ByteArray) : Bool := nameB s.data.toList
/-- The tests on an expression's own fields, in their order. -/
def selfE (x : Ex) : Int :=
  if isE x.kind = false then 5
  else if (bits .andNot .i64 (usesE x) (formE x.kind.toNat).fields != 0) = true then 5
  else if ((formE x.kind.toNat).args != -1 && ((x.args.length : Int) != (formE x.kind.toNat).args)) = true then 5
  else if (bits .and .i64 (formE x.kind.toNat).fields 1 != 0 && !nameZ x.name) = true then 8
  else if x.n < 0 then 1 else 0
mutual
def chkE : Ex → Int → Int
  | .mk k n s a c l, lv => if 32 < lv then 20 else if selfE (.mk k n s a c l) ≠ 0 then selfE (.mk k n s a c l) else chkL l (lv + 1)
def chkL : List Ex → Int → Int
  | [], _ => 0
  | x :: r, lv => if chkE x lv ≠ 0 then chkE x lv else chkL r lv
end
theorem chkE_eq (x : Ex) (lv : Int) : chkE x lv = if 32 < lv then 20 else if selfE x ≠ 0 then selfE x else chkL x.args (lv + 1) := by cases x; simp only [chkE, Ex.args]
theorem chkL_drop {l : List Ex} {j : Nat} {lv : Int} (h : j < l.length) : chkL (l.drop j) lv = if chkE l[j] lv ≠ 0 then chkE l[j] lv else chkL (l.drop (j + 1)) lv := by
  rw [List.drop_eq_getElem_cons h, chkL]

set_option maxRecDepth 100000 in
set_option maxHeartbeats 4000000 in
theorem checkExpr_k (k : Nat) : ∀ (x : Ex) (lv : Int) (w : World), x.sz ≤ k → x.In w → Tabs w → 0 ≤ lv → lv ≤ 64 →
    Calls Tryz.prog 98 #[x.val, .int .i64 lv] w fun e w' => e = .returned (.int .i64 (chkE x lv)) ∧ Below w.heap.size w w' := by
  induction k with
  | zero => intro x n w hk; have := x.sz_args; omega
  | succ k ih =>
    intro x lv w hk hin ht h0 h1
    have hin' := Ex.in_iff.1 hin
    obtain ⟨_, _, _, hl, hc, _, hrow, hsub⟩ := hin'
    have hszl : szL x.args ≤ k := by have := x.sz_args; omega
    have IH : Hid (∀ (x : Ex) (lv : Int) (w : World), x.sz ≤ k → x.In w → Tabs w → 0 ≤ lv → lv ≤ 64 →
      Calls Tryz.prog 98 #[x.val, .int .i64 lv] w fun e w' => e = .returned (.int .i64 (chkE x lv)) ∧ Below w.heap.size w w') := ih
    have HS : Hid (∀ (y : Ex), y ∈ x.args → Ex.In w y) := hsub
    have HR : Hid (RowIn w x.a 4 (List.map Ex.cells x.args)) := hrow
    have HI : Hid (∀ w, Calls Tryz.prog 108 #[.int .i64 x.kind] w fun e w' => e = .returned (.bool (isE x.kind)) ∧ w' = w) := fun w => isExpr_any x.kind w
    have HU : Hid (∀ w, Calls Tryz.prog 109 #[x.val] w fun e w' => e = .returned (.int .i64 (usesE x)) ∧ Below w.heap.size w w') := fun w => exprUses_any x w
    have HN : Hid (∀ w, Calls Tryz.prog 69 #[.string x.name] w fun e w' => e = .returned (.bool (nameZ x.name)) ∧ w' = w) := fun w => name_any x.name w
    have HT : Hid (Tabs w) := ht
    clear ih hsub hrow hin hk ht
    have HE : Hid (chkE x lv = if 32 < lv then 20 else if selfE x ≠ 0 then selfE x else chkL x.args (lv + 1)) := chkE_eq x lv
    generalize chkE x lv = res at HE ⊢
    unfold Ex.val at HU ⊢
    by_cases hlv : 32 < lv
    · go_enter Tryz.func98, Tryz.ntmps98
      go_wp2_with fail
      go_ret
      exact ⟨ret_int (by rw [HE.out, if_pos hlv]), (Below.refl _ w).alloc (Nat.le_refl _) _⟩
    · cases hk : isE x.kind
      · rw [hk] at HI
        go_enter Tryz.func98, Tryz.ntmps98
        go_wp2_with (go_at_call 108; refine (HI.out _).mono ?_; rintro e w' ⟨rfl, rfl⟩)
        go_ret
        exact ⟨ret_int (by rw [HE.out, if_neg (by omega)]; simp [selfE, hk]), (Below.refl _ w).alloc (Nat.le_refl _) _⟩
      · rw [hk] at HI
        obtain ⟨kd, n, s, a, c, l⟩ := x
        simp only [Ex.kind, Ex.n, Ex.name, Ex.a, Ex.cap, Ex.args] at *
        obtain ⟨kn, rfl⟩ : ∃ kn : Nat, kd = kn := ⟨kd.toNat, by simp [isE] at hk; omega⟩
        have hkn : kn < 21 := by simp [isE] at hk; omega
        have HE2 : Hid (∀ b, selfE (.mk kn n s a c l) = b → res = if b ≠ 0 then b else chkL l (lv + 1)) := by
          show ∀ b, _ → _; rintro b rfl; rw [HE.out, if_neg (by omega)]
        have HSE : Hid (selfE (.mk kn n s a c l) = if (bits .andNot .i64 (usesE (.mk kn n s a c l)) (formE kn).fields != 0) = true then 5 else if ((formE kn).args != -1 && ((l.length : Int) != (formE kn).args)) = true then 5 else if (bits .and .i64 (formE kn).fields 1 != 0 && !nameZ s) = true then 8 else if n < 0 then 1 else 0) := by
          show _ = _; unfold selfE; simp only [Ex.kind, Ex.n, Ex.name, Ex.args, hk, Bool.true_eq_false, if_false, Int.toNat_natCast]; rfl
        have hcell := HT.out.2 kn hkn
        obtain ⟨t0, t1, t2, t3⟩ := hcell
        clear HE hk
        have h1w : 1 < w.heap.size := lt_of_cell t0
        generalize usesE (.mk kn n s a c l) = us at HU HSE
        generalize formE kn = fm at t0 t1 t2 t3 HSE
        go_enter Tryz.func98, Tryz.ntmps98
        go_wp2_with (go_at_call 108; refine (HI.out _).mono ?_; rintro e w' ⟨rfl, rfl⟩)
        obtain ⟨W2, hW2⟩ : ∃ W2, (w.alloc (.cells #[.int .i64 kn, .int .i64 n, .string s, .slice a l.length c] 41)).alloc (.cells #[.int .i64 fm.fields, .int .i64 fm.args, .int .i64 fm.rank, .string fm.sign] 155) = W2 := ⟨_, rfl⟩
        have BX : ∀ (j : Nat) v, ([.int .i64 kn, .int .i64 n, .string s, .slice a l.length c] : List Value)[j]? = some v → W2.cell? ⟨w.heap.size, j, none⟩ = some v := by
          intro j v h
          rw [← hW2, World.cell?_alloc_past _ _ _ (by simp), World.cell?_alloc_at _ _ _ _ rfl]; simpa using h
        have BF : ∀ (j : Nat) v, ([.int .i64 fm.fields, .int .i64 fm.args, .int .i64 fm.rank, .string fm.sign] : List Value)[j]? = some v → W2.cell? ⟨w.heap.size + 1, j, none⟩ = some v := by
          intro j v h
          rw [← hW2, World.cell?_alloc_at _ _ _ _ (by simp)]; simpa using h
        have hb2 : Below w.heap.size w W2 := by rw [← hW2]; exact ((Below.refl _ w).alloc (Nat.le_refl _) _).alloc (by simp) _
        have hs2 : w.heap.size + 1 + 1 ≤ W2.heap.size := by rw [← hW2]; simp
        rw [hW2]
        clear hW2 t0 t1 t2 t3
        have x0 := cell_regrown (BX 0 _ rfl)
        have x1 := cell_regrown (BX 1 _ rfl)
        have x2 := cell_regrown (BX 2 _ rfl)
        have x3 := cell_regrown (BX 3 _ rfl)
        have f0 := cell_regrown (BF 0 _ rfl)
        have f1 := cell_regrown (BF 1 _ rfl)
        clear BX BF
        refine wp_region_quiet_below (by kernel_rfl) (by kernel_rfl) ?_
        repeat (go_big_quiet_step ((go_at_call 109; exact Calls.regrown_of (HU.out _))))
        refine wpQuiet_nil ?_
        intro _ hw'
        obtain ⟨⟨dq, osq⟩, hw''⟩ := hw'
        subst hw''
        have y0 := x0 dq osq
        have y1 := x1 dq osq
        have y2 := x2 dq osq
        have y3 := x3 dq osq
        have z0 := f0 dq osq
        have z1 := f1 dq osq
        have hb3 : Below w.heap.size w (grow (redrawn W2 dq) osq) := hb2.trans ((below_regrown W2 dq osq).mono (by omega))
        clear x0 x1 x2 x3 f0 f1
        generalize grow (redrawn W2 dq) osq = W3 at *
        clear hb2 hs2
        cases e1 : (bits .andNot .i64 us fm.fields != 0)
        · cases e2 : (fm.args != -1)
          · skip
            cases e4 : (bits .and .i64 fm.fields 1 != 0)
            · skip
              by_cases e6 : n < 0
              · skip
                have HF : Hid (res = 1) := (by rw [HE2.out 1 (by rw [HSE.out, e1, e2, e4]; simp only [e6, if_true]; rfl)]; rfl : res = 1)
                go_wp2_with (go_at_call 69; refine (HN.out _).mono ?_; rintro e w' ⟨rfl, rfl⟩)
                go_ret
                exact ⟨ret_int HF.out.symm, hb3⟩
              · skip
                have HF : Hid (res = chkL l (lv + 1)) := (by rw [HE2.out 0 (by rw [HSE.out, e1, e2, e4]; simp only [e6, if_false]; rfl)]; rfl : res = chkL l (lv + 1))
                clear HSE HE2 HU HI
                go_wp2_with (go_at_call 69; refine (HN.out _).mono ?_; rintro e w' ⟨rfl, rfl⟩)
                go_loopw [56] (fun t56 wr => ∃ (j : Nat), j ≤ l.length ∧ t56 = .int .i64 j ∧ chkL (l.drop j) (lv + 1) = chkL l (lv + 1) ∧ Below w.heap.size w wr) (fun t56 _ => l.length - (intOf t56).toNat)
                case atStart => exact ⟨0, Nat.zero_le _, rfl, rfl, hb3⟩
                case round =>
                  obtain ⟨j, hj, rfl, hcnt, hb⟩ := hrel
                  have HC : Hid (chkL (l.drop j) (lv + 1) = res) := hcnt.trans HF.out.symm
                  clear hcnt y0 y1 y2 y3 z0 z1
                  have hws := hb.size
                  by_cases hlt : j < l.length
                  · obtain ⟨b, o, rfl, c0, c1, c2, c3⟩ := row_at (HR.out.below hb) hlt
                    have hli : (j : Int) < (l.length : Int) := by omega
                    have hsy := szL_mem (List.getElem_mem hlt)
                    have HY : Hid (Ex.In w l[j]) := HS.out l[j] (List.getElem_mem hlt)
                    have HZ : Hid (l[j].sz ≤ k) := (by omega : l[j].sz ≤ k)
                    have HD : Hid (chkL (l.drop j) (lv + 1) = if chkE l[j] (lv + 1) ≠ 0 then chkE l[j] (lv + 1) else chkL (l.drop (j + 1)) (lv + 1)) := chkL_drop hlt
                    clear hsy
                    generalize l[j] = y at *
                    go_wp2_with fail
                    refine (IH.out y (lv + 1) _ HZ.out (HY.out.stay (hb.alloc hws _)) (HT.out.stay (hb.alloc hws _)) (by omega) (by omega)).mono ?_
                    rintro e w' ⟨rfl, hb'⟩
                    have hb4 : Below w.heap.size w w' := (hb.alloc hws _).trans (hb'.mono (by simp; omega))
                    generalize chkE y (lv + 1) = v at HD ⊢
                    cases ev : (v != 0)
                    · go_wp2_with fail
                      go_roundw
                      case rel => exact ⟨j + 1, by omega, by go_num, by rw [← HF.out, ← HC.out, HD.out, if_neg (by simpa using ev)], hb4⟩
                      case measure => simp [intOf]; omega
                    · go_wp2_with fail
                      go_ret
                      exact ⟨ret_int (by rw [← HC.out, HD.out, if_pos (by simpa using ev)]), hb4⟩
                  · go_wp2_with fail
                    go_ret
                    exact ⟨ret_int (by rw [← HC.out, List.drop_eq_nil_of_le (by omega), chkL]), hb⟩
            · cases e5 : nameZ s
              · rw [e5] at HN
                have HF : Hid (res = 8) := (by rw [HE2.out 8 (by rw [HSE.out, e1, e2, e4, e5]; rfl)]; rfl : res = 8)
                go_wp2_with (go_at_call 69; refine (HN.out _).mono ?_; rintro e w' ⟨rfl, rfl⟩)
                go_ret
                exact ⟨ret_int HF.out.symm, hb3⟩
              · rw [e5] at HN
                by_cases e6 : n < 0
                · skip
                  have HF : Hid (res = 1) := (by rw [HE2.out 1 (by rw [HSE.out, e1, e2, e4, e5]; simp only [e6, if_true]; rfl)]; rfl : res = 1)
                  go_wp2_with (go_at_call 69; refine (HN.out _).mono ?_; rintro e w' ⟨rfl, rfl⟩)
                  go_ret
                  exact ⟨ret_int HF.out.symm, hb3⟩
                · skip
                  have HF : Hid (res = chkL l (lv + 1)) := (by rw [HE2.out 0 (by rw [HSE.out, e1, e2, e4, e5]; simp only [e6, if_false]; rfl)]; rfl : res = chkL l (lv + 1))
                  clear HSE HE2 HU HI
                  go_wp2_with (go_at_call 69; refine (HN.out _).mono ?_; rintro e w' ⟨rfl, rfl⟩)
                  go_loopw [56] (fun t56 wr => ∃ (j : Nat), j ≤ l.length ∧ t56 = .int .i64 j ∧ chkL (l.drop j) (lv + 1) = chkL l (lv + 1) ∧ Below w.heap.size w wr) (fun t56 _ => l.length - (intOf t56).toNat)
                  case atStart => exact ⟨0, Nat.zero_le _, rfl, rfl, hb3⟩
                  case round =>
                    obtain ⟨j, hj, rfl, hcnt, hb⟩ := hrel
                    have HC : Hid (chkL (l.drop j) (lv + 1) = res) := hcnt.trans HF.out.symm
                    clear hcnt y0 y1 y2 y3 z0 z1
                    have hws := hb.size
                    by_cases hlt : j < l.length
                    · obtain ⟨b, o, rfl, c0, c1, c2, c3⟩ := row_at (HR.out.below hb) hlt
                      have hli : (j : Int) < (l.length : Int) := by omega
                      have hsy := szL_mem (List.getElem_mem hlt)
                      have HY : Hid (Ex.In w l[j]) := HS.out l[j] (List.getElem_mem hlt)
                      have HZ : Hid (l[j].sz ≤ k) := (by omega : l[j].sz ≤ k)
                      have HD : Hid (chkL (l.drop j) (lv + 1) = if chkE l[j] (lv + 1) ≠ 0 then chkE l[j] (lv + 1) else chkL (l.drop (j + 1)) (lv + 1)) := chkL_drop hlt
                      clear hsy
                      generalize l[j] = y at *
                      go_wp2_with fail
                      refine (IH.out y (lv + 1) _ HZ.out (HY.out.stay (hb.alloc hws _)) (HT.out.stay (hb.alloc hws _)) (by omega) (by omega)).mono ?_
                      rintro e w' ⟨rfl, hb'⟩
                      have hb4 : Below w.heap.size w w' := (hb.alloc hws _).trans (hb'.mono (by simp; omega))
                      generalize chkE y (lv + 1) = v at HD ⊢
                      cases ev : (v != 0)
                      · go_wp2_with fail
                        go_roundw
                        case rel => exact ⟨j + 1, by omega, by go_num, by rw [← HF.out, ← HC.out, HD.out, if_neg (by simpa using ev)], hb4⟩
                        case measure => simp [intOf]; omega
                      · go_wp2_with fail
                        go_ret
                        exact ⟨ret_int (by rw [← HC.out, HD.out, if_pos (by simpa using ev)]), hb4⟩
                    · go_wp2_with fail
                      go_ret
                      exact ⟨ret_int (by rw [← HC.out, List.drop_eq_nil_of_le (by omega), chkL]), hb⟩
          · cases e3 : ((l.length : Int) != fm.args)
            · skip
              cases e4 : (bits .and .i64 fm.fields 1 != 0)
              · skip
                by_cases e6 : n < 0
                · skip
                  have HF : Hid (res = 1) := (by rw [HE2.out 1 (by rw [HSE.out, e1, e2, e3, e4]; simp only [e6, if_true]; rfl)]; rfl : res = 1)
                  go_wp2_with (go_at_call 69; refine (HN.out _).mono ?_; rintro e w' ⟨rfl, rfl⟩)
                  go_ret
                  exact ⟨ret_int HF.out.symm, hb3⟩
                · skip
                  have HF : Hid (res = chkL l (lv + 1)) := (by rw [HE2.out 0 (by rw [HSE.out, e1, e2, e3, e4]; simp only [e6, if_false]; rfl)]; rfl : res = chkL l (lv + 1))
                  clear HSE HE2 HU HI
                  go_wp2_with (go_at_call 69; refine (HN.out _).mono ?_; rintro e w' ⟨rfl, rfl⟩)
                  go_loopw [56] (fun t56 wr => ∃ (j : Nat), j ≤ l.length ∧ t56 = .int .i64 j ∧ chkL (l.drop j) (lv + 1) = chkL l (lv + 1) ∧ Below w.heap.size w wr) (fun t56 _ => l.length - (intOf t56).toNat)
                  case atStart => exact ⟨0, Nat.zero_le _, rfl, rfl, hb3⟩
                  case round =>
                    obtain ⟨j, hj, rfl, hcnt, hb⟩ := hrel
                    have HC : Hid (chkL (l.drop j) (lv + 1) = res) := hcnt.trans HF.out.symm
                    clear hcnt y0 y1 y2 y3 z0 z1
                    have hws := hb.size
                    by_cases hlt : j < l.length
                    · obtain ⟨b, o, rfl, c0, c1, c2, c3⟩ := row_at (HR.out.below hb) hlt
                      have hli : (j : Int) < (l.length : Int) := by omega
                      have hsy := szL_mem (List.getElem_mem hlt)
                      have HY : Hid (Ex.In w l[j]) := HS.out l[j] (List.getElem_mem hlt)
                      have HZ : Hid (l[j].sz ≤ k) := (by omega : l[j].sz ≤ k)
                      have HD : Hid (chkL (l.drop j) (lv + 1) = if chkE l[j] (lv + 1) ≠ 0 then chkE l[j] (lv + 1) else chkL (l.drop (j + 1)) (lv + 1)) := chkL_drop hlt
                      clear hsy
                      generalize l[j] = y at *
                      go_wp2_with fail
                      refine (IH.out y (lv + 1) _ HZ.out (HY.out.stay (hb.alloc hws _)) (HT.out.stay (hb.alloc hws _)) (by omega) (by omega)).mono ?_
                      rintro e w' ⟨rfl, hb'⟩
                      have hb4 : Below w.heap.size w w' := (hb.alloc hws _).trans (hb'.mono (by simp; omega))
                      generalize chkE y (lv + 1) = v at HD ⊢
                      cases ev : (v != 0)
                      · go_wp2_with fail
                        go_roundw
                        case rel => exact ⟨j + 1, by omega, by go_num, by rw [← HF.out, ← HC.out, HD.out, if_neg (by simpa using ev)], hb4⟩
                        case measure => simp [intOf]; omega
                      · go_wp2_with fail
                        go_ret
                        exact ⟨ret_int (by rw [← HC.out, HD.out, if_pos (by simpa using ev)]), hb4⟩
                    · go_wp2_with fail
                      go_ret
                      exact ⟨ret_int (by rw [← HC.out, List.drop_eq_nil_of_le (by omega), chkL]), hb⟩
              · cases e5 : nameZ s
                · rw [e5] at HN
                  have HF : Hid (res = 8) := (by rw [HE2.out 8 (by rw [HSE.out, e1, e2, e3, e4, e5]; rfl)]; rfl : res = 8)
                  go_wp2_with (go_at_call 69; refine (HN.out _).mono ?_; rintro e w' ⟨rfl, rfl⟩)
                  go_ret
                  exact ⟨ret_int HF.out.symm, hb3⟩
                · rw [e5] at HN
                  by_cases e6 : n < 0
                  · skip
                    have HF : Hid (res = 1) := (by rw [HE2.out 1 (by rw [HSE.out, e1, e2, e3, e4, e5]; simp only [e6, if_true]; rfl)]; rfl : res = 1)
                    go_wp2_with (go_at_call 69; refine (HN.out _).mono ?_; rintro e w' ⟨rfl, rfl⟩)
                    go_ret
                    exact ⟨ret_int HF.out.symm, hb3⟩
                  · skip
                    have HF : Hid (res = chkL l (lv + 1)) := (by rw [HE2.out 0 (by rw [HSE.out, e1, e2, e3, e4, e5]; simp only [e6, if_false]; rfl)]; rfl : res = chkL l (lv + 1))
                    clear HSE HE2 HU HI
                    go_wp2_with (go_at_call 69; refine (HN.out _).mono ?_; rintro e w' ⟨rfl, rfl⟩)
                    go_loopw [56] (fun t56 wr => ∃ (j : Nat), j ≤ l.length ∧ t56 = .int .i64 j ∧ chkL (l.drop j) (lv + 1) = chkL l (lv + 1) ∧ Below w.heap.size w wr) (fun t56 _ => l.length - (intOf t56).toNat)
                    case atStart => exact ⟨0, Nat.zero_le _, rfl, rfl, hb3⟩
                    case round =>
                      obtain ⟨j, hj, rfl, hcnt, hb⟩ := hrel
                      have HC : Hid (chkL (l.drop j) (lv + 1) = res) := hcnt.trans HF.out.symm
                      clear hcnt y0 y1 y2 y3 z0 z1
                      have hws := hb.size
                      by_cases hlt : j < l.length
                      · obtain ⟨b, o, rfl, c0, c1, c2, c3⟩ := row_at (HR.out.below hb) hlt
                        have hli : (j : Int) < (l.length : Int) := by omega
                        have hsy := szL_mem (List.getElem_mem hlt)
                        have HY : Hid (Ex.In w l[j]) := HS.out l[j] (List.getElem_mem hlt)
                        have HZ : Hid (l[j].sz ≤ k) := (by omega : l[j].sz ≤ k)
                        have HD : Hid (chkL (l.drop j) (lv + 1) = if chkE l[j] (lv + 1) ≠ 0 then chkE l[j] (lv + 1) else chkL (l.drop (j + 1)) (lv + 1)) := chkL_drop hlt
                        clear hsy
                        generalize l[j] = y at *
                        go_wp2_with fail
                        refine (IH.out y (lv + 1) _ HZ.out (HY.out.stay (hb.alloc hws _)) (HT.out.stay (hb.alloc hws _)) (by omega) (by omega)).mono ?_
                        rintro e w' ⟨rfl, hb'⟩
                        have hb4 : Below w.heap.size w w' := (hb.alloc hws _).trans (hb'.mono (by simp; omega))
                        generalize chkE y (lv + 1) = v at HD ⊢
                        cases ev : (v != 0)
                        · go_wp2_with fail
                          go_roundw
                          case rel => exact ⟨j + 1, by omega, by go_num, by rw [← HF.out, ← HC.out, HD.out, if_neg (by simpa using ev)], hb4⟩
                          case measure => simp [intOf]; omega
                        · go_wp2_with fail
                          go_ret
                          exact ⟨ret_int (by rw [← HC.out, HD.out, if_pos (by simpa using ev)]), hb4⟩
                      · go_wp2_with fail
                        go_ret
                        exact ⟨ret_int (by rw [← HC.out, List.drop_eq_nil_of_le (by omega), chkL]), hb⟩
            · skip
              have HF : Hid (res = 5) := (by rw [HE2.out 5 (by rw [HSE.out, e1, e2, e3]; rfl)]; rfl : res = 5)
              go_wp2_with (go_at_call 69; refine (HN.out _).mono ?_; rintro e w' ⟨rfl, rfl⟩)
              go_ret
              exact ⟨ret_int HF.out.symm, hb3⟩
        · go_wp2_with fail
          go_ret
          exact ⟨ret_int (by rw [HE2.out 5 (by rw [HSE.out, e1]; rfl)]; rfl), hb3⟩
end Go.Proofs.YtkkcgkpbbngloaaGreatDoor

/- checkStmt: what is wrong first with a statement, without those in its bodies. -/
namespace Go.Proofs.YtkkcgkpbbngloaaGreatDoor
open Go.RowKit Go.Sort

theorem checkExpr_any (x : Ex) (lv : Int) (w : World) (hin : x.In w) (ht : Tabs w) (h0 : 0 ≤ lv) (h1 : lv ≤ 64) :
    Calls Tryz.prog 98 #[x.val, .int .i64 lv] w fun e w' => e = .returned (.int .i64 (chkE x lv)) ∧ Below w.heap.size w w' := checkExpr_k _ x lv w (Nat.le_refl _) hin ht h0 h1

/-- The tests on a statement's own fields, in their order. -/
def selfS (s : St) : Int :=
  if isS s.kind = false then 5
  else if (bits .andNot .i64 (usesS s) (fldS s.kind.toNat) != 0) = true then 5
  else if (bits .and .i64 (fldS s.kind.toNat) 1 != 0 && !nameZ s.name) = true then 8
  else if (decide (s.n < 0) || leastC s.cases) = true then 1
  else if (s.kind == 10 && s.a.kind != 4) = true then 5 else 0
/-- What is wrong first with a statement at a level, without those in its bodies. -/
def chkS (s : St) (lv : Int) : Int :=
  if 32 < lv then 20 else if selfS s ≠ 0 then selfS s
  else if (bits .and .i64 (fldS s.kind.toNat) 4 != 0 && chkE s.a (lv + 1) != 0) = true then chkE s.a (lv + 1)
  else if (bits .and .i64 (fldS s.kind.toNat) 8 != 0) = true then chkE s.b (lv + 1) else 0

/-- A block that holds a statement's cells. -/
def BoxS (W : World) (B : Nat) (s : St) : Prop := ∀ (i : Nat) v, s.cells[i]? = some v → W.cell? ⟨B, i, none⟩ = some v
theorem BoxS.below {n : Nat} {W W' : World} {B : Nat} {s : St} (h : BoxS W B s) (hb : Below n W W') (hB : B < n) : BoxS W' B s := fun i v hi => (hb.cell (p := ⟨B, i, none⟩) hB).trans (h i v hi)
theorem boxS_new (w : World) (s : St) : BoxS (w.alloc (.cells #[.int .i64 s.kind, .string s.name, .int .i64 s.n, .int .i64 s.a.kind, .int .i64 s.a.n, .string s.a.name, .slice s.a.a s.a.args.length s.a.cap, .int .i64 s.b.kind, .int .i64 s.b.n, .string s.b.name, .slice s.b.a s.b.args.length s.b.cap, .slice s.ba s.body.length s.bc, .slice s.ea s.els.length s.ec, .slice s.ca s.cases.length s.cc] 44)) w.heap.size s := by
  intro i v h
  rw [World.cell?_alloc_at _ _ _ _ rfl]; simpa [St.cells] using h

set_option maxRecDepth 100000 in
set_option maxHeartbeats 8000000 in
theorem checkStmt_any (s : St) (lv : Int) (w : World) (hin : s.In w) (ht : Tabs w) (h0 : 0 ≤ lv) (h1 : lv ≤ 63) :
    Calls Tryz.prog 70 #[s.val, .int .i64 lv] w fun e w' => e = .returned (.int .i64 (chkS s lv)) ∧ Below w.heap.size w w' := by
  have HI : Hid (∀ w, Calls Tryz.prog 95 #[.int .i64 s.kind] w fun e w' => e = .returned (.bool (isS s.kind)) ∧ w' = w) := fun w => isStmt_any s.kind w
  have HU : Hid (∀ w, Calls Tryz.prog 96 #[s.val] w fun e w' => e = .returned (.int .i64 (usesS s)) ∧ Below w.heap.size w w') := fun w => stmtUses_any s w
  have HN : Hid (∀ w, Calls Tryz.prog 69 #[.string s.name] w fun e w' => e = .returned (.bool (nameZ s.name)) ∧ w' = w) := fun w => name_any s.name w
  have HL : Hid (∀ w', Below w.heap.size w w' → Calls Tryz.prog 97 #[.slice s.ca s.cases.length s.cc] w' fun e w'' => e = .returned (.bool (leastC s.cases)) ∧ Below w'.heap.size w' w'') := fun w' hb => hasLeast_any s.cases s.ca s.cc w' ((St.in_iff.1 hin).2.2.2.2.2.2.2.1.below hb)
  have HA : Hid (∀ w', Below w.heap.size w w' → Calls Tryz.prog 98 #[s.a.val, .int .i64 (lv + 1)] w' fun e w'' => e = .returned (.int .i64 (chkE s.a (lv + 1))) ∧ Below w'.heap.size w' w'') := fun w' hb => checkExpr_any s.a (lv + 1) w' ((St.in_iff.1 hin).2.2.2.1.stay hb) (ht.stay hb) (by omega) (by omega)
  have HB : Hid (∀ w', Below w.heap.size w w' → Calls Tryz.prog 98 #[s.b.val, .int .i64 (lv + 1)] w' fun e w'' => e = .returned (.int .i64 (chkE s.b (lv + 1))) ∧ Below w'.heap.size w' w'') := fun w' hb => checkExpr_any s.b (lv + 1) w' ((St.in_iff.1 hin).2.2.2.2.1.stay hb) (ht.stay hb) (by omega) (by omega)
  have HT : Hid (Tabs w) := ht
  clear ht hin
  have HE : Hid (chkS s lv = if 32 < lv then 20 else if selfS s ≠ 0 then selfS s else if (bits .and .i64 (fldS s.kind.toNat) 4 != 0 && chkE s.a (lv + 1) != 0) = true then chkE s.a (lv + 1) else if (bits .and .i64 (fldS s.kind.toNat) 8 != 0) = true then chkE s.b (lv + 1) else 0) := (rfl : chkS s lv = _)
  generalize chkS s lv = res at HE ⊢
  generalize chkE s.a (lv + 1) = va at HA HE
  generalize chkE s.b (lv + 1) = vb at HB HE
  unfold St.val at HU ⊢
  unfold Ex.val at HA HB
  have hb1 := (Below.refl _ w).alloc (Nat.le_refl _) (.cells #[.int .i64 s.kind, .string s.name, .int .i64 s.n, .int .i64 s.a.kind, .int .i64 s.a.n, .string s.a.name, .slice s.a.a s.a.args.length s.a.cap, .int .i64 s.b.kind, .int .i64 s.b.n, .string s.b.name, .slice s.b.a s.b.args.length s.b.cap, .slice s.ba s.body.length s.bc, .slice s.ea s.els.length s.ec, .slice s.ca s.cases.length s.cc] 44)
  by_cases hlv : 32 < lv
  · go_enter Tryz.func70, Tryz.ntmps70
    go_wp2_with fail
    go_ret
    exact ⟨ret_int (by rw [HE.out, if_pos hlv]), hb1⟩
  · cases hk : isS s.kind
    · rw [hk] at HI
      go_enter Tryz.func70, Tryz.ntmps70
      go_wp2_with (go_at_call 95; refine (HI.out _).mono ?_; rintro e w' ⟨rfl, rfl⟩)
      go_ret
      exact ⟨ret_int (by rw [HE.out, if_neg (by omega)]; simp [selfS, hk]), hb1⟩
    · rw [hk] at HI
      obtain ⟨kn, hkn⟩ : ∃ kn : Nat, s.kind = kn := ⟨s.kind.toNat, by simp [isS] at hk; omega⟩
      have hkl : kn < 11 := by simp [isS] at hk; omega
      have HSE : Hid (selfS s = if (bits .andNot .i64 (usesS s) (fldS kn) != 0) = true then 5 else if (bits .and .i64 (fldS kn) 1 != 0 && !nameZ s.name) = true then 8 else if (decide (s.n < 0) || leastC s.cases) = true then 1 else if ((kn : Int) == 10 && s.a.kind != 4) = true then 5 else 0) := by
        show _ = _; unfold selfS; simp only [hk, Bool.true_eq_false, if_false]; rw [hkn]; simp only [Int.toNat_natCast]
      have HE2 : Hid (res = if selfS s ≠ 0 then selfS s else if (bits .and .i64 (fldS kn) 4 != 0 && va != 0) = true then va else if (bits .and .i64 (fldS kn) 8 != 0) = true then vb else 0) := by
        show _ = _; rw [HE.out, if_neg (by omega), hkn]; rfl
      have t0 := HT.out.1 kn hkl
      have h1w : 0 < w.heap.size := lt_of_cell t0
      have BX0 : Hid (BoxS _ w.heap.size s) := boxS_new w s
      rw [hkn] at HI HU BX0 hb1 ⊢
      clear HE hk
      generalize selfS s = ss at HSE HE2
      generalize usesS s = us at HU HSE
      generalize fldS kn = F at t0 HSE HE2
      go_enter Tryz.func70, Tryz.ntmps70
      go_wp2_with (go_at_call 95; refine (HI.out _).mono ?_; rintro e w' ⟨rfl, rfl⟩)
      refine (HU.out _).mono ?_
      rintro e w1 ⟨rfl, hbu⟩
      have BX : Hid (BoxS w1 w.heap.size s) := BX0.out.below hbu (by simp)
      have hb2 : Below w.heap.size w w1 := hb1.trans (hbu.mono (by simp))
      have hs2 : w.heap.size < w1.heap.size := by have := hbu.size; simp at this; omega
      clear BX0 hbu HU HI t0 HT hb1
      cases e1 : (bits .andNot .i64 us F != 0)
      · skip
        have c1 := BX.out 1 _ rfl
        have c2 := BX.out 2 _ rfl
        have c13 := BX.out 13 _ rfl
        cases e2 : (bits .and .i64 F 1 != 0)
        · skip
          by_cases e4 : s.n < 0
          · have e4' : decide (s.n < 0) = true := by simpa using e4
            have HF : Hid (res = 1) := (by rw [HE2.out, show ss = 1 from (by rw [HSE.out, e1, e2, e4']; rfl)]; rfl : res = 1)
            go_wp2_with (go_at_call 69; refine (HN.out _).mono ?_; rintro e w' ⟨rfl, rfl⟩)
            go_ret
            exact ⟨ret_int HF.out.symm, hb2⟩
          · have e4' : decide (s.n < 0) = false := by simpa using e4
            go_wp2_with (go_at_call 69; refine (HN.out _).mono ?_; rintro e w' ⟨rfl, rfl⟩)
            refine (HL.out _ hb2).mono ?_
            rintro e w2 ⟨rfl, hbl⟩
            have BY : Hid (BoxS w2 w.heap.size s) := BX.out.below hbl hs2
            have hb3 : Below w.heap.size w w2 := hb2.trans (hbl.mono (by omega))
            have hs3 : w.heap.size < w2.heap.size := by have := hbl.size; omega
            clear c1 c2 c13 BX hbl hb2 hs2
            have c0 : w2.cell? ⟨w.heap.size, 0, none⟩ = some (.int .i64 kn) := by rw [← hkn]; exact BY.out 0 _ rfl
            have c3 := BY.out 3 _ rfl
            have c4 := BY.out 4 _ rfl
            have c5 := BY.out 5 _ rfl
            have c6 := BY.out 6 _ rfl
            cases e5 : leastC s.cases
            · skip
              cases e6 : ((kn : Int) == 10)
              · skip
                have HG : Hid (res = if (bits .and .i64 F 4 != 0 && va != 0) = true then va else if (bits .and .i64 F 8 != 0) = true then vb else 0) := (by rw [HE2.out, show ss = 0 from (by rw [HSE.out, e1, e2, e4', e5, e6]; rfl)]; rfl : res = _)
                clear HSE HE2
                cases e8 : (bits .and .i64 F 4 != 0)
                · skip
                  have c7 := BY.out 7 _ rfl
                  have c8 := BY.out 8 _ rfl
                  have c9 := BY.out 9 _ rfl
                  have c10 := BY.out 10 _ rfl
                  cases e9 : (bits .and .i64 F 8 != 0)
                  · go_wp2_with fail
                    go_ret
                    exact ⟨ret_int (by rw [HG.out, e8, e9]; rfl), hb3⟩
                  · go_wp2_with fail
                    refine (HB.out _ hb3).mono ?_
                    rintro e w3 ⟨rfl, hbx⟩
                    go_wp2_with fail
                    go_ret
                    exact ⟨ret_int (by rw [HG.out, e8, e9]; rfl), hb3.trans (hbx.mono (by omega))⟩
                · go_wp2_with fail
                  refine (HA.out _ hb3).mono ?_
                  rintro e w3 ⟨rfl, hba⟩
                  have BZ : Hid (BoxS w3 w.heap.size s) := BY.out.below hba hs3
                  have hb4 : Below w.heap.size w w3 := hb3.trans (hba.mono (by omega))
                  have hs4 : w.heap.size < w3.heap.size := by have := hba.size; omega
                  clear c0 c3 c4 c5 c6 BY
                  have c7 := BZ.out 7 _ rfl
                  have c8 := BZ.out 8 _ rfl
                  have c9 := BZ.out 9 _ rfl
                  have c10 := BZ.out 10 _ rfl
                  cases e10 : (va != 0)
                  · cases e9 : (bits .and .i64 F 8 != 0)
                    · go_wp2_with fail
                      go_ret
                      exact ⟨ret_int (by rw [HG.out, e8, e9, e10]; rfl), hb4⟩
                    · go_wp2_with fail
                      refine (HB.out _ hb4).mono ?_
                      rintro e w5 ⟨rfl, hbx⟩
                      go_wp2_with fail
                      go_ret
                      exact ⟨ret_int (by rw [HG.out, e8, e9, e10]; rfl), hb4.trans (hbx.mono (by omega))⟩
                  · go_wp2_with fail
                    go_ret
                    exact ⟨ret_int (by rw [HG.out, e8, e10]; rfl), hb4⟩
              · cases e7 : (s.a.kind != 4)
                · skip
                  have HG : Hid (res = if (bits .and .i64 F 4 != 0 && va != 0) = true then va else if (bits .and .i64 F 8 != 0) = true then vb else 0) := (by rw [HE2.out, show ss = 0 from (by rw [HSE.out, e1, e2, e4', e5, e6, e7]; rfl)]; rfl : res = _)
                  clear HSE HE2
                  cases e8 : (bits .and .i64 F 4 != 0)
                  · skip
                    have c7 := BY.out 7 _ rfl
                    have c8 := BY.out 8 _ rfl
                    have c9 := BY.out 9 _ rfl
                    have c10 := BY.out 10 _ rfl
                    cases e9 : (bits .and .i64 F 8 != 0)
                    · go_wp2_with fail
                      go_ret
                      exact ⟨ret_int (by rw [HG.out, e8, e9]; rfl), hb3⟩
                    · go_wp2_with fail
                      refine (HB.out _ hb3).mono ?_
                      rintro e w3 ⟨rfl, hbx⟩
                      go_wp2_with fail
                      go_ret
                      exact ⟨ret_int (by rw [HG.out, e8, e9]; rfl), hb3.trans (hbx.mono (by omega))⟩
                  · go_wp2_with fail
                    refine (HA.out _ hb3).mono ?_
                    rintro e w3 ⟨rfl, hba⟩
                    have BZ : Hid (BoxS w3 w.heap.size s) := BY.out.below hba hs3
                    have hb4 : Below w.heap.size w w3 := hb3.trans (hba.mono (by omega))
                    have hs4 : w.heap.size < w3.heap.size := by have := hba.size; omega
                    clear c0 c3 c4 c5 c6 BY
                    have c7 := BZ.out 7 _ rfl
                    have c8 := BZ.out 8 _ rfl
                    have c9 := BZ.out 9 _ rfl
                    have c10 := BZ.out 10 _ rfl
                    cases e10 : (va != 0)
                    · cases e9 : (bits .and .i64 F 8 != 0)
                      · go_wp2_with fail
                        go_ret
                        exact ⟨ret_int (by rw [HG.out, e8, e9, e10]; rfl), hb4⟩
                      · go_wp2_with fail
                        refine (HB.out _ hb4).mono ?_
                        rintro e w5 ⟨rfl, hbx⟩
                        go_wp2_with fail
                        go_ret
                        exact ⟨ret_int (by rw [HG.out, e8, e9, e10]; rfl), hb4.trans (hbx.mono (by omega))⟩
                    · go_wp2_with fail
                      go_ret
                      exact ⟨ret_int (by rw [HG.out, e8, e10]; rfl), hb4⟩
                · skip
                  have HF : Hid (res = 5) := (by rw [HE2.out, show ss = 5 from (by rw [HSE.out, e1, e2, e4', e5, e6, e7]; rfl)]; rfl : res = 5)
                  go_wp2_with fail
                  go_ret
                  exact ⟨ret_int HF.out.symm, hb3⟩
            · skip
              have HF : Hid (res = 1) := (by rw [HE2.out, show ss = 1 from (by rw [HSE.out, e1, e2, e4', e5]; rfl)]; rfl : res = 1)
              go_wp2_with fail
              go_ret
              exact ⟨ret_int HF.out.symm, hb3⟩
        · cases e3 : nameZ s.name
          · rw [e3] at HN
            have HF : Hid (res = 8) := (by rw [HE2.out, show ss = 8 from (by rw [HSE.out, e1, e2, e3]; rfl)]; rfl : res = 8)
            go_wp2_with (go_at_call 69; refine (HN.out _).mono ?_; rintro e w' ⟨rfl, rfl⟩)
            go_ret
            exact ⟨ret_int HF.out.symm, hb2⟩
          · rw [e3] at HN
            by_cases e4 : s.n < 0
            · have e4' : decide (s.n < 0) = true := by simpa using e4
              have HF : Hid (res = 1) := (by rw [HE2.out, show ss = 1 from (by rw [HSE.out, e1, e2, e3, e4']; rfl)]; rfl : res = 1)
              go_wp2_with (go_at_call 69; refine (HN.out _).mono ?_; rintro e w' ⟨rfl, rfl⟩)
              go_ret
              exact ⟨ret_int HF.out.symm, hb2⟩
            · have e4' : decide (s.n < 0) = false := by simpa using e4
              go_wp2_with (go_at_call 69; refine (HN.out _).mono ?_; rintro e w' ⟨rfl, rfl⟩)
              refine (HL.out _ hb2).mono ?_
              rintro e w2 ⟨rfl, hbl⟩
              have BY : Hid (BoxS w2 w.heap.size s) := BX.out.below hbl hs2
              have hb3 : Below w.heap.size w w2 := hb2.trans (hbl.mono (by omega))
              have hs3 : w.heap.size < w2.heap.size := by have := hbl.size; omega
              clear c1 c2 c13 BX hbl hb2 hs2
              have c0 : w2.cell? ⟨w.heap.size, 0, none⟩ = some (.int .i64 kn) := by rw [← hkn]; exact BY.out 0 _ rfl
              have c3 := BY.out 3 _ rfl
              have c4 := BY.out 4 _ rfl
              have c5 := BY.out 5 _ rfl
              have c6 := BY.out 6 _ rfl
              cases e5 : leastC s.cases
              · skip
                cases e6 : ((kn : Int) == 10)
                · skip
                  have HG : Hid (res = if (bits .and .i64 F 4 != 0 && va != 0) = true then va else if (bits .and .i64 F 8 != 0) = true then vb else 0) := (by rw [HE2.out, show ss = 0 from (by rw [HSE.out, e1, e2, e3, e4', e5, e6]; rfl)]; rfl : res = _)
                  clear HSE HE2
                  cases e8 : (bits .and .i64 F 4 != 0)
                  · skip
                    have c7 := BY.out 7 _ rfl
                    have c8 := BY.out 8 _ rfl
                    have c9 := BY.out 9 _ rfl
                    have c10 := BY.out 10 _ rfl
                    cases e9 : (bits .and .i64 F 8 != 0)
                    · go_wp2_with fail
                      go_ret
                      exact ⟨ret_int (by rw [HG.out, e8, e9]; rfl), hb3⟩
                    · go_wp2_with fail
                      refine (HB.out _ hb3).mono ?_
                      rintro e w3 ⟨rfl, hbx⟩
                      go_wp2_with fail
                      go_ret
                      exact ⟨ret_int (by rw [HG.out, e8, e9]; rfl), hb3.trans (hbx.mono (by omega))⟩
                  · go_wp2_with fail
                    refine (HA.out _ hb3).mono ?_
                    rintro e w3 ⟨rfl, hba⟩
                    have BZ : Hid (BoxS w3 w.heap.size s) := BY.out.below hba hs3
                    have hb4 : Below w.heap.size w w3 := hb3.trans (hba.mono (by omega))
                    have hs4 : w.heap.size < w3.heap.size := by have := hba.size; omega
                    clear c0 c3 c4 c5 c6 BY
                    have c7 := BZ.out 7 _ rfl
                    have c8 := BZ.out 8 _ rfl
                    have c9 := BZ.out 9 _ rfl
                    have c10 := BZ.out 10 _ rfl
                    cases e10 : (va != 0)
                    · cases e9 : (bits .and .i64 F 8 != 0)
                      · go_wp2_with fail
                        go_ret
                        exact ⟨ret_int (by rw [HG.out, e8, e9, e10]; rfl), hb4⟩
                      · go_wp2_with fail
                        refine (HB.out _ hb4).mono ?_
                        rintro e w5 ⟨rfl, hbx⟩
                        go_wp2_with fail
                        go_ret
                        exact ⟨ret_int (by rw [HG.out, e8, e9, e10]; rfl), hb4.trans (hbx.mono (by omega))⟩
                    · go_wp2_with fail
                      go_ret
                      exact ⟨ret_int (by rw [HG.out, e8, e10]; rfl), hb4⟩
                · cases e7 : (s.a.kind != 4)
                  · skip
                    have HG : Hid (res = if (bits .and .i64 F 4 != 0 && va != 0) = true then va else if (bits .and .i64 F 8 != 0) = true then vb else 0) := (by rw [HE2.out, show ss = 0 from (by rw [HSE.out, e1, e2, e3, e4', e5, e6, e7]; rfl)]; rfl : res = _)
                    clear HSE HE2
                    cases e8 : (bits .and .i64 F 4 != 0)
                    · skip
                      have c7 := BY.out 7 _ rfl
                      have c8 := BY.out 8 _ rfl
                      have c9 := BY.out 9 _ rfl
                      have c10 := BY.out 10 _ rfl
                      cases e9 : (bits .and .i64 F 8 != 0)
                      · go_wp2_with fail
                        go_ret
                        exact ⟨ret_int (by rw [HG.out, e8, e9]; rfl), hb3⟩
                      · go_wp2_with fail
                        refine (HB.out _ hb3).mono ?_
                        rintro e w3 ⟨rfl, hbx⟩
                        go_wp2_with fail
                        go_ret
                        exact ⟨ret_int (by rw [HG.out, e8, e9]; rfl), hb3.trans (hbx.mono (by omega))⟩
                    · go_wp2_with fail
                      refine (HA.out _ hb3).mono ?_
                      rintro e w3 ⟨rfl, hba⟩
                      have BZ : Hid (BoxS w3 w.heap.size s) := BY.out.below hba hs3
                      have hb4 : Below w.heap.size w w3 := hb3.trans (hba.mono (by omega))
                      have hs4 : w.heap.size < w3.heap.size := by have := hba.size; omega
                      clear c0 c3 c4 c5 c6 BY
                      have c7 := BZ.out 7 _ rfl
                      have c8 := BZ.out 8 _ rfl
                      have c9 := BZ.out 9 _ rfl
                      have c10 := BZ.out 10 _ rfl
                      cases e10 : (va != 0)
                      · cases e9 : (bits .and .i64 F 8 != 0)
                        · go_wp2_with fail
                          go_ret
                          exact ⟨ret_int (by rw [HG.out, e8, e9, e10]; rfl), hb4⟩
                        · go_wp2_with fail
                          refine (HB.out _ hb4).mono ?_
                          rintro e w5 ⟨rfl, hbx⟩
                          go_wp2_with fail
                          go_ret
                          exact ⟨ret_int (by rw [HG.out, e8, e9, e10]; rfl), hb4.trans (hbx.mono (by omega))⟩
                      · go_wp2_with fail
                        go_ret
                        exact ⟨ret_int (by rw [HG.out, e8, e10]; rfl), hb4⟩
                  · skip
                    have HF : Hid (res = 5) := (by rw [HE2.out, show ss = 5 from (by rw [HSE.out, e1, e2, e3, e4', e5, e6, e7]; rfl)]; rfl : res = 5)
                    go_wp2_with fail
                    go_ret
                    exact ⟨ret_int HF.out.symm, hb3⟩
              · skip
                have HF : Hid (res = 1) := (by rw [HE2.out, show ss = 1 from (by rw [HSE.out, e1, e2, e3, e4', e5]; rfl)]; rfl : res = 1)
                go_wp2_with fail
                go_ret
                exact ⟨ret_int HF.out.symm, hb3⟩
      · skip
        have HF : Hid (res = 5) := (by rw [HE2.out, show ss = 5 from (by rw [HSE.out, e1]; rfl)]; rfl : res = 5)
        go_wp2_with fail
        go_ret
        exact ⟨ret_int HF.out.symm, hb2⟩
end Go.Proofs.YtkkcgkpbbngloaaGreatDoor

/- checkStmts: what is wrong first in statements, and the number of the one where it is. -/
namespace Go.Proofs.YtkkcgkpbbngloaaGreatDoor
open Go.RowKit Go.Sort

/-- One look behind another one, where nothing was wrong. -/
def thenZ (p : Int × Int) (f : Int → Int × Int) : Int × Int := if p.1 ≠ 0 then p else f p.2
mutual
def chkT : St → Int → Int → Int × Int
  | .mk k s n a b ba bc l ea ec e ca cc c, lv, at_ =>
    if chkS (.mk k s n a b ba bc l ea ec e ca cc c) lv ≠ 0 then (chkS (.mk k s n a b ba bc l ea ec e ca cc c) lv, at_ + 1)
    else thenZ (chkSs l (lv + 1) (at_ + 1)) fun m => thenZ (chkCs c (lv + 1) m) fun m => chkSs e (lv + 1) m
def chkSs : List St → Int → Int → Int × Int
  | [], _, at_ => (0, at_)
  | s :: r, lv, at_ => thenZ (chkT s lv at_) fun m => chkSs r lv m
def chkCa : Ca → Int → Int → Int × Int
  | .mk _ _ _ l, lv, at_ => chkSs l lv at_
def chkCs : List Ca → Int → Int → Int × Int
  | [], _, at_ => (0, at_)
  | c :: r, lv, at_ => thenZ (chkCa c lv at_) fun m => chkCs r lv m
end
def chkBd : List Bd → Int → Int → Int × Int
  | [], _, at_ => (0, at_)
  | b :: r, lv, at_ => thenZ (chkSs b.l lv at_) fun m => chkBd r lv m
theorem thenZ_ret (p : Int × Int) : (thenZ p fun m => (0, m)) = p := by
  unfold thenZ; split
  · rfl
  · rename_i h; have h : p.1 = 0 := by simpa using h
    rw [← h]
theorem thenZ_assoc (p : Int × Int) (f g : Int → Int × Int) : thenZ (thenZ p f) g = thenZ p fun m => thenZ (f m) g := by
  unfold thenZ; split <;> rfl
theorem chkCa_eq (c : Ca) (lv at_ : Int) : chkCa c lv at_ = chkSs c.body lv at_ := by cases c; simp only [chkCa, Ca.body]
theorem chkBd_cases (l : List Ca) (r : List Bd) (lv at_ : Int) : chkBd (l.map Ca.bd ++ r) lv at_ = thenZ (chkCs l lv at_) fun m => chkBd r lv m := by
  induction l generalizing at_ with
  | nil => simp only [List.map_nil, List.nil_append, chkCs, thenZ]; rfl
  | cons c l ih =>
    rw [List.map_cons, List.cons_append, chkBd, chkCs, chkCa_eq, thenZ_assoc]
    congr 1
    funext m
    exact ih m
theorem chkT_eq (s : St) (lv at_ : Int) : chkT s lv at_ = if chkS s lv ≠ 0 then (chkS s lv, at_ + 1) else chkBd (bods s) (lv + 1) (at_ + 1) := by
  have h : chkBd (bods s) (lv + 1) (at_ + 1) = thenZ (chkSs s.body (lv + 1) (at_ + 1)) fun m => thenZ (chkCs s.cases (lv + 1) m) fun m => chkSs s.els (lv + 1) m := by
    rw [bods, chkBd]; congr 1; funext m
    rw [chkBd_cases]; congr 1; funext m
    rw [chkBd]; exact thenZ_ret _
  rw [h]
  cases s; simp only [chkT, St.body, St.cases, St.els]
theorem chkSs_drop {l : List St} {j : Nat} {lv at_ : Int} (h : j < l.length) : chkSs (l.drop j) lv at_ = thenZ (chkT l[j] lv at_) fun m => chkSs (l.drop (j + 1)) lv m := by
  rw [List.drop_eq_getElem_cons h, chkSs]
theorem chkBd_drop {l : List Bd} {j : Nat} {lv at_ : Int} (h : j < l.length) : chkBd (l.drop j) lv at_ = thenZ (chkSs l[j].l lv at_) fun m => chkBd (l.drop (j + 1)) lv m := by
  rw [List.drop_eq_getElem_cons h, chkBd]
theorem ssz_drop {l : List St} {j : Nat} (h : j < l.length) : ssz (l.drop j) = l[j].sz + ssz (l.drop (j + 1)) := by
  rw [List.drop_eq_getElem_cons h, ssz]
def bsz : List Bd → Nat | [] => 0 | b :: r => ssz b.l + bsz r
theorem bsz_drop {l : List Bd} {j : Nat} (h : j < l.length) : bsz (l.drop j) = ssz l[j].l + bsz (l.drop (j + 1)) := by
  rw [List.drop_eq_getElem_cons h, bsz]
theorem bsz_append (l r : List Bd) : bsz (l ++ r) = bsz l + bsz r := by
  induction l with
  | nil => simp [bsz]
  | cons b l ih => rw [List.cons_append, bsz, bsz, ih]; omega
theorem bsz_cases (l : List Ca) : bsz (l.map Ca.bd) ≤ csz l := by
  induction l with
  | nil => simp [bsz]
  | cons c l ih => rw [List.map_cons, bsz, csz, c.sz_eq]; show ssz c.body + _ ≤ _; omega
theorem bsz_bods (s : St) : bsz (bods s) + 1 ≤ s.sz := by
  rw [bods, bsz, bsz_append, bsz, bsz, s.sz_eq]
  have := bsz_cases s.cases
  show ssz s.body + (_ + (ssz s.els + 0)) + 1 ≤ _
  omega

theorem chk_at (k : Nat) : (∀ (s : St) (lv at_ : Int), s.sz ≤ k → (chkT s lv at_).2 ≤ at_ + s.sz ∧ at_ ≤ (chkT s lv at_).2) ∧ (∀ (l : List St) (lv at_ : Int), ssz l ≤ k → (chkSs l lv at_).2 ≤ at_ + ssz l ∧ at_ ≤ (chkSs l lv at_).2) := by
  have step : ∀ k, (∀ (s : St) (lv at_ : Int), s.sz ≤ k → (chkT s lv at_).2 ≤ at_ + s.sz ∧ at_ ≤ (chkT s lv at_).2) → ∀ (l : List St) (lv at_ : Int), ssz l ≤ k → (chkSs l lv at_).2 ≤ at_ + ssz l ∧ at_ ≤ (chkSs l lv at_).2 := by
    intro k h1 l
    induction l with
    | nil => intro lv at_ _; simp only [chkSs, ssz]; omega
    | cons x r ihr =>
      intro lv at_ hk
      rw [ssz] at hk ⊢
      have a1 := h1 x lv at_ (by omega)
      have a2 := ihr lv (chkT x lv at_).2 (by omega)
      rw [chkSs, thenZ]
      split <;> omega
  induction k with
  | zero =>
    have h0 : ∀ (s : St) (lv at_ : Int), s.sz ≤ 0 → (chkT s lv at_).2 ≤ at_ + s.sz ∧ at_ ≤ (chkT s lv at_).2 := fun s _ _ hk => by have := s.sz_eq; omega
    exact ⟨h0, step 0 h0⟩
  | succ k ih =>
    have h1 : ∀ (s : St) (lv at_ : Int), s.sz ≤ k + 1 → (chkT s lv at_).2 ≤ at_ + s.sz ∧ at_ ≤ (chkT s lv at_).2 := by
      intro s lv at_ hk
      have fold : ∀ (l : List Bd) (lv at_ : Int), (∀ b ∈ l, b ∈ bods s) → (chkBd l lv at_).2 ≤ at_ + bsz l ∧ at_ ≤ (chkBd l lv at_).2 := by
        intro l
        induction l with
        | nil => intro lv at_ _; simp only [chkBd, bsz]; omega
        | cons b r ihr =>
          intro lv at_ hm
          have a1 := ih.2 b.l lv at_ (by have := bods_sz (hm b (by simp)); omega)
          have a2 := ihr lv (chkSs b.l lv at_).2 (fun y hy => hm y (by simp [hy]))
          rw [chkBd, thenZ, bsz]
          split <;> omega
      rw [chkT_eq]
      have := s.sz_eq
      split
      · simp only; omega
      · have a := fold (bods s) (lv + 1) (at_ + 1) (fun b hb => hb)
        have := bsz_bods s
        omega
    exact ⟨h1, step (k + 1) h1⟩
theorem chkSs_at (l : List St) (lv at_ : Int) : (chkSs l lv at_).2 ≤ at_ + ssz l ∧ at_ ≤ (chkSs l lv at_).2 := (chk_at _).2 l lv at_ (Nat.le_refl _)
end Go.Proofs.YtkkcgkpbbngloaaGreatDoor

/- What a call may turn: one block alone; blocks that hold an expression or a statement. -/
namespace Go.Proofs.YtkkcgkpbbngloaaGreatDoor
open Go.RowKit Go.Sort

/-- All but one block lies as it did. -/
def OnlyB (b : Nat) (W W' : World) : Prop := W'.os = W.os ∧ W'.tape = W.tape ∧ W'.output = W.output ∧ W.heap.size ≤ W'.heap.size ∧ ∀ k, k < W.heap.size → k ≠ b → W'.heap[k]? = W.heap[k]?
theorem OnlyB.refl (b : Nat) (W : World) : OnlyB b W W := ⟨rfl, rfl, rfl, Nat.le_refl _, fun _ _ _ => rfl⟩
theorem OnlyB.trans {b : Nat} {A B C : World} (h : OnlyB b A B) (k : OnlyB b B C) : OnlyB b A C := ⟨k.1.trans h.1, k.2.1.trans h.2.1, k.2.2.1.trans h.2.2.1, Nat.le_trans h.2.2.2.1 k.2.2.2.1, fun i h1 h2 => (k.2.2.2.2 i (Nat.lt_of_lt_of_le h1 h.2.2.2.1) h2).trans (h.2.2.2.2 i h1 h2)⟩
theorem OnlyB.size {b : Nat} {A B : World} (h : OnlyB b A B) : A.heap.size ≤ B.heap.size := h.2.2.2.1
theorem OnlyB.of_below {b : Nat} {A B : World} (h : Below A.heap.size A B) : OnlyB b A B := ⟨h.os, h.tape, h.output, h.size, fun i h1 _ => h.block i h1⟩
theorem OnlyB.set {b : Nat} {A B : World} (h : OnlyB b A B) (i : Nat) (v : Value) : OnlyB b A (B.setCell ⟨b, i, none⟩ v) := h.trans ⟨rfl, rfl, rfl, by simp [World.setCell], fun k _ h2 => Below.heap_setCell _ _ _ _ h2⟩
theorem OnlyB.below {b : Nat} {A B : World} {N : Nat} (h : OnlyB b A B) (hb : N ≤ b) (hN : N ≤ A.heap.size) : Below N A B := ⟨h.1, h.2.1, h.2.2.1, h.2.2.2.1, fun k hk => h.2.2.2.2 k (by omega) (by omega)⟩
theorem OnlyB.cell {b : Nat} {A B : World} (h : OnlyB b A B) {k i : Nat} (hk : k < A.heap.size) (hb : k ≠ b) : B.cell? ⟨k, i, none⟩ = A.cell? ⟨k, i, none⟩ := by
  have := h.2.2.2.2 k hk hb
  simp only [World.cell?, this]
theorem OnlyB.alloc {b : Nat} {A B : World} (h : OnlyB b A B) (o : Obj) : OnlyB b A (B.alloc o) := h.trans (OnlyB.of_below ((Below.refl _ B).alloc (Nat.le_refl _) o))
/-- From a world in which programs lie, on to one that has more, but for the look's block. -/
theorem OnlyB.on {b : Nat} {W0 A B : World} (hB : Below W0.heap.size W0 A) (hb : W0.heap.size ≤ b) (h : OnlyB b A B) : Below W0.heap.size W0 B := hB.trans (h.below hb hB.size)
/-- A block that holds an expression's cells. -/
def BoxE (W : World) (B : Nat) (x : Ex) : Prop := ∀ (i : Nat) v, x.cells[i]? = some v → W.cell? ⟨B, i, none⟩ = some v
theorem BoxE.only {W W' : World} {B b : Nat} {x : Ex} (h : BoxE W B x) (ho : OnlyB b W W') (hB : B < W.heap.size) (hb : B ≠ b) : BoxE W' B x := fun i v hi => (ho.cell hB hb).trans (h i v hi)
theorem boxE_new (w : World) (x : Ex) : BoxE (w.alloc (.cells #[.int .i64 x.kind, .int .i64 x.n, .string x.name, .slice x.a x.args.length x.cap] 41)) w.heap.size x := by
  intro i v h
  rw [World.cell?_alloc_at _ _ _ _ rfl]; simpa [Ex.cells] using h
theorem BoxS.only {W W' : World} {B b : Nat} {s : St} (h : BoxS W B s) (ho : OnlyB b W W') (hB : B < W.heap.size) (hb : B ≠ b) : BoxS W' B s := fun i v hi => (ho.cell hB hb).trans (h i v hi)
end Go.Proofs.YtkkcgkpbbngloaaGreatDoor

/- A table of names and numbers, as a map holds it. -/
namespace Go.Proofs.YtkkcgkpbbngloaaGreatDoor
open Go.RowKit Go.Sort

/-- The number of a name, the latest one; 0 where there is none. -/
def tabAt (l : List (List UInt8 × Int)) (s : List UInt8) : Int := match l.find? (fun p => p.1 == s) with | some p => p.2 | none => 0
def tabHas (l : List (List UInt8 × Int)) (s : List UInt8) : Bool := l.any fun p => p.1 == s
theorem tabAt_cons (l : List (List UInt8 × Int)) (k : List UInt8) (v : Int) (s : List UInt8) : tabAt ((k, v) :: l) s = if k = s then v else tabAt l s := by
  unfold tabAt
  rw [List.find?_cons]
  by_cases h : k = s
  · subst h; simp
  · rw [if_neg h]
    have : (k == s) = false := by simpa using h
    simp only [this]
theorem tabHas_cons (l : List (List UInt8 × Int)) (k : List UInt8) (v : Int) (s : List UInt8) : tabHas ((k, v) :: l) s = if k = s then true else tabHas l s := by
  unfold tabHas
  rw [List.any_cons]
  by_cases h : k = s
  · subst h; simp
  · rw [if_neg h]
    have : (k == s) = false := by simpa using h
    simp only [this, Bool.false_or]

theorem zero_int (w : World) : (zeroValue 3).run Tryz.prog w = .ok (.int .i64 0) w := by kernel_rfl
theorem keyedS : Maps.Keyed Tryz.prog 9 := Maps.string_keyed Tryz.underlying9
/-- Block b is a map that holds the table l. -/
def Tab (W : World) (b : Nat) (l : List (List UInt8 × Int)) : Prop :=
  ∃ D : DataW Unit, W.ownsMap Tryz.prog 9 (plainElem Tryz.prog 3) b l.length D ∧ ∀ s : List UInt8, Maps.has D (.string s) = tabHas l s ∧ D.atKey (.string s) (.lit (.int .i64 0)) = .lit (.int .i64 (tabAt l s))
theorem tab_made (w : World) : Tab (w.alloc (.map #[] 0)) w.heap.size [] := ⟨.map [], World.ownsMap_made w _ _ _, fun _ => ⟨rfl, rfl⟩⟩
theorem Tab.lt {W : World} {b : Nat} {l : List (List UInt8 × Int)} (h : Tab W b l) : b < W.heap.size := by
  obtain ⟨D, h, _⟩ := h; exact h.lt
theorem Tab.keep {W W' : World} {b : Nat} {l : List (List UInt8 × Int)} (h : Tab W b l) (he : W'.heap[b]? = W.heap[b]?) : Tab W' b l := by
  obtain ⟨D, ⟨es, clock, hb, hr⟩, h2⟩ := h
  exact ⟨D, ⟨es, clock, he.trans hb, hr⟩, h2⟩
theorem Tab.stay {W W' : World} {b : Nat} {l : List (List UInt8 × Int)} (h : Tab W b l) (hb : Below W.heap.size W W') : Tab W' b l := h.keep (hb.block b h.lt)
theorem Tab.only {W W' : World} {b m : Nat} {l : List (List UInt8 × Int)} (h : Tab W b l) (ho : OnlyB m W W') (hm : b ≠ m) : Tab W' b l := h.keep (ho.2.2.2.2 b h.lt hm)
/-- What 'v, ok := m[s]' answers. -/
theorem Tab.look {W : World} {b : Nat} {l : List (List UInt8 × Int)} (h : Tab W b l) (s : ByteArray) (hs : s.size ≤ maxLen) :
    (Instr.lookup 58 (.map (some b)) (.string s) true).run Tryz.prog W = .ok (.tuple #[.int .i64 (tabAt l s.data.toList), .bool (tabHas l s.data.toList)]) W := by
  obtain ⟨D, h, h2⟩ := h
  obtain ⟨v, ps, hr, hv⟩ := h.look_ok keyedS Tryz.underlying58 (z := .int .i64 0) (zero_int W) (zd := .lit (.int .i64 0)) (zp := []) (plainElem_int Tryz.underlying3 (by decide)) (key := .string s) (WideMaps.keyOf_string_mk Tryz.underlying9 hs)
  obtain ⟨c, rfl, hc, _⟩ := plainElem_int_inv Tryz.underlying3 hv
  obtain ⟨e1, e2⟩ := h2 s.data.toList
  have hc' := congrArg Prod.fst hc
  simp only at hc'
  rw [e2] at hc'
  cases hc'
  rw [hr, e1]
/-- What 'm[s] = v' does. -/
theorem Tab.put {W : World} {b : Nat} {l : List (List UInt8 × Int)} (h : Tab W b l) (s : ByteArray) (hs : s.size ≤ maxLen) (v : Int) (hv : I64 v) (hn : l.length < 1000000) :
    ∃ W', (Instr.mapUpdate 58 (.map (some b)) (.string s) (.int .i64 v)).run Tryz.prog W = .ok () W' ∧ Tab W' b ((s.data.toList, v) :: l) ∧ OnlyB b W W' := by
  obtain ⟨D, h, h2⟩ := h
  have hm := h.isMap
  obtain ⟨W', hr, ho, hg⟩ := h.update keyedS Tryz.underlying58 (by unfold maxLen; omega) (key := .string s) (val := .int .i64 v) (WideMaps.keyOf_string_mk Tryz.underlying9 hs) (plainElem_int Tryz.underlying3 (by simp [Lit.wf]; exact hv))
  refine ⟨W', hr, ⟨_, ho, fun k => ?_⟩, hg.1, hg.2, hg.3, hg.4, fun i h1 h2 => hg.5 i h1 (by simpa using h2)⟩
  by_cases e : s.data.toList = k
  · subst e
    rw [tabHas_cons, tabAt_cons, if_pos rfl, if_pos rfl]
    exact ⟨Maps.has_put_same hm (by trivial) _, Maps.atKey_put_same hm (by trivial) _ _⟩
  · rw [tabHas_cons, tabAt_cons, if_neg e, if_neg e]
    have hne : (Lit.string k) ≠ Lit.string s.data.toList := fun h => by cases h; exact e rfl
    rw [Maps.has_put_other hne, Maps.atKey_put_other hne]
    exact h2 k
end Go.Proofs.YtkkcgkpbbngloaaGreatDoor

/- The program's scopes: what is known, from the inside out. -/
namespace Go.Proofs.YtkkcgkpbbngloaaGreatDoor
open Go.RowKit Go.Sort

abbrev Env := List (Bool × List (List UInt8 × Int))
/-- The kind of a name; 0: it is not known. -/
def envAt : Env → List UInt8 → Int
  | [], _ => 0
  | f :: r, s => if tabHas f.2 s = true then tabAt f.2 s else envAt r s
/-- Scopes in memory: their blocks and their maps' blocks, from the inside out. -/
def Chain (W : World) : Option Addr → List (Nat × Nat) → Env → Prop
  | a, [], [] => a = none
  | a, x :: bs, f :: env => a = some ⟨x.1, 0, none⟩ ∧ (∃ a', W.heap[x.1]? = some (.cells #[.pointer a', .map (some x.2), .bool f.1] 80 (0, 0)) ∧ Chain W a' bs env) ∧ Tab W x.2 f.2
  | _, _, _ => False
def chB : List (Nat × Nat) → List Nat
  | [] => []
  | x :: bs => x.1 :: x.2 :: chB bs
theorem Chain.keep {W W' : World} : ∀ {a : Option Addr} {bs : List (Nat × Nat)} {env : Env}, Chain W a bs env → (∀ b ∈ chB bs, W'.heap[b]? = W.heap[b]?) → Chain W' a bs env
  | _, [], [], h, _ => h
  | _, x :: bs, f :: env, ⟨h1, ⟨a', h2, h3⟩, h4⟩, hk => ⟨h1, ⟨a', (hk x.1 (by simp [chB])).trans h2, h3.keep fun b hb => hk b (by simp [chB, hb])⟩, h4.keep (hk x.2 (by simp [chB]))⟩
  | _, [], _ :: _, h, _ => h.elim
  | _, _ :: _, [], h, _ => h.elim
theorem Chain.lt {W : World} : ∀ {a : Option Addr} {bs : List (Nat × Nat)} {env : Env}, Chain W a bs env → ∀ b ∈ chB bs, b < W.heap.size
  | _, [], [], _, b, hb => by simp [chB] at hb
  | _, x :: bs, f :: env, ⟨_, ⟨a', h2, h3⟩, h4⟩, b, hb => by
    simp only [chB, List.mem_cons] at hb
    rcases hb with rfl | rfl | hb
    · exact (Array.getElem?_eq_some_iff.1 h2).1
    · exact h4.lt
    · exact h3.lt b hb
  | _, [], _ :: _, h, _, _ => h.elim
  | _, _ :: _, [], h, _, _ => h.elim
theorem Chain.stay {W W' : World} {a : Option Addr} {bs : List (Nat × Nat)} {env : Env} (h : Chain W a bs env) (hb : Below W.heap.size W W') : Chain W' a bs env := h.keep fun b hx => hb.block b (h.lt b hx)
theorem Chain.only {W W' : World} {a : Option Addr} {bs : List (Nat × Nat)} {env : Env} {m : Nat} (h : Chain W a bs env) (ho : OnlyB m W W') (hm : m ∉ chB bs) : Chain W' a bs env := h.keep fun b hx => ho.2.2.2.2 b (h.lt b hx) (fun e => hm (e ▸ hx))

set_option maxRecDepth 100000 in
set_option maxHeartbeats 1000000 in
theorem kind_any (s : ByteArray) (hs : s.size ≤ 140737488351232) (a : Option Addr) (bs : List (Nat × Nat)) (env : Env) (w : World) (hc : Chain w a bs env) :
    Calls Tryz.prog 51 #[.pointer a, .string s] w fun e w' => e = .returned (.int .i64 (envAt env s.data.toList)) ∧ w' = w := by
  have hs' : s.size ≤ maxLen := by unfold maxLen; omega
  have HLK : Hid (∀ b l, Tab w b l → (Instr.lookup 58 (.map (some b)) (.string s) true).run Tryz.prog w = .ok (.tuple #[.int .i64 (tabAt l s.data.toList), .bool (tabHas l s.data.toList)]) w) := fun b l h => h.look s hs'
  have HC : Hid (Chain w a bs env) := hc
  clear hs hs' hc
  go_enter Tryz.func51, Tryz.ntmps51
  go_wp2_with fail
  go_loopg [0] env.length (fun g t0 wx => ∃ a' bs' env', env'.length = g ∧ t0 = .pointer a' ∧ Aside (Chain w a' bs' env') ∧ Aside (envAt env' s.data.toList = envAt env s.data.toList) ∧ wx = w)
  case atStart => exact ⟨a, bs, env, rfl, rfl, HC.out, rfl, rfl⟩
  case round =>
    obtain ⟨a', bs', env', hg, rfl, HCH, HEV, hwx⟩ := hrel
    obtain rfl := hwx.symm
    match bs', env', HCH, HEV, hg with
    | [], [], HCH, HEV, hg =>
      obtain rfl : a' = none := HCH.out
      have HF : Hid (envAt env s.data.toList = 0) := HEV.out.symm
      go_wp2_with fail
      go_ret
      exact ⟨ret_int HF.out.symm, rfl⟩
    | x :: bs1, f :: env1, HCH, HEV, hg =>
      obtain ⟨rfl, ⟨a1, h2, h3⟩, h4⟩ := HCH.out
      have HC1 : Hid (Chain w a1 bs1 env1) := h3
      have hl := HLK.out x.2 f.2 h4
      have k0 : w.cell? ⟨x.1, 0, none⟩ = some (.pointer a1) := by rw [Lib.cell_of_heap h2]; rfl
      have k1 : w.cell? ⟨x.1, 1, none⟩ = some (.map (some x.2)) := by rw [Lib.cell_of_heap h2]; rfl
      have HE : Hid (envAt env s.data.toList = if tabHas f.2 s.data.toList = true then tabAt f.2 s.data.toList else envAt env1 s.data.toList) := HEV.out.symm
      clear h2 h3 h4 HCH HEV
      generalize x.1 = xb at *
      generalize x.2 = xm at *
      generalize tabAt f.2 s.data.toList = tv at *
      cases hh : tabHas f.2 s.data.toList
      · rw [hh] at hl
        have HN : Hid (envAt env1 s.data.toList = envAt env s.data.toList) := by show _ = _; rw [HE.out, hh]; rfl
        obtain ⟨g1, rfl⟩ : ∃ g1, gk = g1 + 1 := ⟨env1.length, by simpa using hg.symm⟩
        have hg1 : env1.length = g1 := by simpa using hg
        clear hg
        go_wp2_with fail
        go_roundg g1
        case rel => exact ⟨a1, bs1, env1, hg1, rfl, HC1.out, HN.out, rfl⟩
        case measure => omega
      · rw [hh] at hl
        have HF : Hid (envAt env s.data.toList = tv) := by show _ = _; rw [HE.out, hh]; rfl
        clear hg
        go_wp2_with fail
        go_ret
        exact ⟨ret_int HF.out.symm, rfl⟩
    | [], _ :: _, HCH, HEV, hg => exact HCH.out.elim
    | _ :: _, [], HCH, HEV, hg => exact HCH.out.elim
end Go.Proofs.YtkkcgkpbbngloaaGreatDoor

/- The program's scopes: what is declared, read, written, and left. -/
namespace Go.Proofs.YtkkcgkpbbngloaaGreatDoor
open Go.RowKit Go.Sort

def rdZ (k : Int) : Int := if k = 0 then 8 else if k = 2 then 30 else 0
def wrZ (k : Int) : Int := if k = 3 then 31 else rdZ k
def ixZ (k : Int) : Int := if k = 0 then 8 else if k = 2 then 0 else 30
def lvZ : Env → Int
  | [] => 32
  | f :: _ => if f.1 = true then 0 else 32
/-- One more name, in the innermost scope. -/
def envPut : Env → List UInt8 → Int → Env
  | [], _, _ => []
  | f :: r, s, k => (f.1, (s, k) :: f.2) :: r
def dcZ (env : Env) (s : List UInt8) : Int := if envAt env s ≠ 0 then 9 else 0
def dcEnv (env : Env) (s : List UInt8) (k : Int) : Env := if envAt env s ≠ 0 then env else envPut env s k

set_option maxHeartbeats 1000000 in
theorem read_any (s : ByteArray) (hs : s.size ≤ 140737488351232) (a : Option Addr) (bs : List (Nat × Nat)) (env : Env) (w : World) (hc : Chain w a bs env) :
    Calls Tryz.prog 100 #[.pointer a, .string s] w fun e w' => e = .returned (.int .i64 (rdZ (envAt env s.data.toList))) ∧ w' = w := by
  have HK : Hid (Calls Tryz.prog 51 #[.pointer a, .string s] w fun e w' => e = .returned (.int .i64 (envAt env s.data.toList)) ∧ w' = w) := kind_any s hs a bs env w hc
  clear hs hc
  generalize envAt env s.data.toList = k at *
  cases e0 : (k == 0)
  · cases e2 : (k == 2)
    · have HV : Hid (rdZ k = 0) := by show _ = _; unfold rdZ; rw [if_neg (by simpa using e0), if_neg (by simpa using e2)]
      go_enter Tryz.func100, Tryz.ntmps100
      go_wp2_with fail
      refine HK.out.mono ?_
      rintro e w' ⟨rfl, rfl⟩
      go_wp2_with fail
      go_ret
      exact ⟨ret_int HV.out.symm, rfl⟩
    · have HV : Hid (rdZ k = 30) := by show _ = _; unfold rdZ; rw [if_neg (by simpa using e0), if_pos (by simpa using e2)]
      go_enter Tryz.func100, Tryz.ntmps100
      go_wp2_with fail
      refine HK.out.mono ?_
      rintro e w' ⟨rfl, rfl⟩
      go_wp2_with fail
      go_ret
      exact ⟨ret_int HV.out.symm, rfl⟩
  · have HV : Hid (rdZ k = 8) := by show _ = _; unfold rdZ; rw [if_pos (by simpa using e0)]
    go_enter Tryz.func100, Tryz.ntmps100
    go_wp2_with fail
    refine HK.out.mono ?_
    rintro e w' ⟨rfl, rfl⟩
    go_wp2_with fail
    go_ret
    exact ⟨ret_int HV.out.symm, rfl⟩
set_option maxHeartbeats 1000000 in
theorem index_any' (s : ByteArray) (hs : s.size ≤ 140737488351232) (a : Option Addr) (bs : List (Nat × Nat)) (env : Env) (w : World) (hc : Chain w a bs env) :
    Calls Tryz.prog 75 #[.pointer a, .string s] w fun e w' => e = .returned (.int .i64 (ixZ (envAt env s.data.toList))) ∧ w' = w := by
  have HK : Hid (Calls Tryz.prog 51 #[.pointer a, .string s] w fun e w' => e = .returned (.int .i64 (envAt env s.data.toList)) ∧ w' = w) := kind_any s hs a bs env w hc
  clear hs hc
  generalize envAt env s.data.toList = k at *
  cases e0 : (k == 0)
  · cases e2 : (k == 2)
    · have HV : Hid (ixZ k = 30) := by show _ = _; unfold ixZ; rw [if_neg (by simpa using e0), if_neg (by simpa using e2)]
      go_enter Tryz.func75, Tryz.ntmps75
      go_wp2_with fail
      refine HK.out.mono ?_
      rintro e w' ⟨rfl, rfl⟩
      go_wp2_with fail
      go_ret
      exact ⟨ret_int HV.out.symm, rfl⟩
    · have HV : Hid (ixZ k = 0) := by show _ = _; unfold ixZ; rw [if_neg (by simpa using e0), if_pos (by simpa using e2)]
      go_enter Tryz.func75, Tryz.ntmps75
      go_wp2_with fail
      refine HK.out.mono ?_
      rintro e w' ⟨rfl, rfl⟩
      go_wp2_with fail
      go_ret
      exact ⟨ret_int HV.out.symm, rfl⟩
  · have HV : Hid (ixZ k = 8) := by show _ = _; unfold ixZ; rw [if_pos (by simpa using e0)]
    go_enter Tryz.func75, Tryz.ntmps75
    go_wp2_with fail
    refine HK.out.mono ?_
    rintro e w' ⟨rfl, rfl⟩
    go_wp2_with fail
    go_ret
    exact ⟨ret_int HV.out.symm, rfl⟩
set_option maxHeartbeats 1000000 in
theorem write_scope (s : ByteArray) (hs : s.size ≤ 140737488351232) (a : Option Addr) (bs : List (Nat × Nat)) (env : Env) (w : World) (hc : Chain w a bs env) :
    Calls Tryz.prog 74 #[.pointer a, .string s] w fun e w' => e = .returned (.int .i64 (wrZ (envAt env s.data.toList))) ∧ w' = w := by
  have HK : Hid (Calls Tryz.prog 51 #[.pointer a, .string s] w fun e w' => e = .returned (.int .i64 (envAt env s.data.toList)) ∧ w' = w) := kind_any s hs a bs env w hc
  have HR : Hid (Calls Tryz.prog 100 #[.pointer a, .string s] w fun e w' => e = .returned (.int .i64 (rdZ (envAt env s.data.toList))) ∧ w' = w) := read_any s hs a bs env w hc
  clear hs hc
  generalize envAt env s.data.toList = k at *
  cases e3 : (k == 3)
  · have HV : Hid (wrZ k = rdZ k) := by show _ = _; unfold wrZ; rw [if_neg (by simpa using e3)]
    generalize rdZ k = r at *
    go_enter Tryz.func74, Tryz.ntmps74
    go_wp2_with fail
    refine HK.out.mono ?_
    rintro e w' ⟨rfl, hw⟩
    obtain rfl := hw.symm
    go_wp2_with fail
    refine HR.out.mono ?_
    rintro e w' ⟨rfl, hw⟩
    obtain rfl := hw.symm
    go_wp2_with fail
    go_ret
    exact ⟨ret_int HV.out.symm, rfl⟩
  · have HV : Hid (wrZ k = 31) := by show _ = _; unfold wrZ; rw [if_pos (by simpa using e3)]
    go_enter Tryz.func74, Tryz.ntmps74
    go_wp2_with fail
    refine HK.out.mono ?_
    rintro e w' ⟨rfl, rfl⟩
    go_wp2_with fail
    go_ret
    exact ⟨ret_int HV.out.symm, rfl⟩
set_option maxHeartbeats 1000000 in
theorem leave_any (a : Option Addr) (bs : List (Nat × Nat)) (env : Env) (w : World) (hc : Chain w a bs env) (hne : env ≠ []) :
    Calls Tryz.prog 78 #[.pointer a] w fun e w' => e = .returned (.int .i64 (lvZ env)) ∧ w' = w := by
  match bs, env, hc, hne with
  | [], [], _, h => exact absurd rfl h
  | x :: bs, f :: env, hc, _ =>
    obtain ⟨rfl, ⟨a1, h2, h3⟩, h4⟩ := hc
    have k2 : w.cell? ⟨x.1, 2, none⟩ = some (.bool f.1) := by rw [Lib.cell_of_heap h2]; rfl
    have HV : Hid (lvZ (f :: env) = if f.1 = true then 0 else 32) := (rfl : lvZ (f :: env) = _)
    generalize lvZ (f :: env) = v at *
    clear h2 h3 h4
    generalize x.1 = xb at *
    cases hf : f.1
    · rw [hf] at k2 HV
      go_enter Tryz.func78, Tryz.ntmps78
      go_wp2_with fail
      go_ret
      exact ⟨ret_int (by rw [HV.out]; rfl), rfl⟩
    · rw [hf] at k2 HV
      go_enter Tryz.func78, Tryz.ntmps78
      go_wp2_with fail
      go_ret
      exact ⟨ret_int (by rw [HV.out]; rfl), rfl⟩
  | [], _ :: _, h, _ => exact h.elim
  | _ :: _, [], h, _ => exact h.elim
set_option maxHeartbeats 1000000 in
theorem declare_any (s : ByteArray) (hs : s.size ≤ 140737488351232) (k : Int) (hk : I64 k) (a : Option Addr) (x : Nat × Nat) (bs : List (Nat × Nat)) (env : Env) (w : World) (hc : Chain w a (x :: bs) env) (hnd : (chB (x :: bs)).Nodup) (hn : ∀ f ∈ env, f.2.length < 1000000) :
    Calls Tryz.prog 27 #[.pointer a, .string s, .int .i64 k] w fun e w' => e = .returned (.int .i64 (dcZ env s.data.toList)) ∧ Chain w' a (x :: bs) (dcEnv env s.data.toList k) ∧ OnlyB x.2 w w' := by
  have HK : Hid (Calls Tryz.prog 51 #[.pointer a, .string s] w fun e w' => e = .returned (.int .i64 (envAt env s.data.toList)) ∧ w' = w) := kind_any s hs a _ env w hc
  by_cases hv : envAt env s.data.toList = 0
  · have HZ : Hid (dcZ env s.data.toList = 0 ∧ dcEnv env s.data.toList k = envPut env s.data.toList k) := by
      unfold dcZ dcEnv; rw [if_neg (by simpa using hv), if_neg (by simpa using hv)]; exact ⟨rfl, rfl⟩
    match env, hc, hn, HZ, HK, hv with
    | f :: env, hc, hn, HZ, HK, hv =>
      obtain ⟨rfl, ⟨a1, h2, h3⟩, h4⟩ := hc
      obtain ⟨W', hr, ht, ho⟩ := h4.put s (by unfold maxLen; omega) k hk (hn f (by simp))
      have k1 : w.cell? ⟨x.1, 1, none⟩ = some (.map (some x.2)) := by rw [Lib.cell_of_heap h2]; rfl
      simp only [chB, List.nodup_cons, List.mem_cons, not_or] at hnd
      have HP : Hid (Chain W' (some ⟨x.1, 0, none⟩) (x :: bs) (envPut (f :: env) s.data.toList k) ∧ OnlyB x.2 w W') := ⟨⟨rfl, ⟨a1, (ho.2.2.2.2 x.1 (Array.getElem?_eq_some_iff.1 h2).1 hnd.1.1).trans h2, h3.only ho hnd.2.1⟩, ht⟩, ho⟩
      rw [hv] at HK
      clear h2 h3 h4 ht ho hn hnd hs hk hv
      generalize x.1 = xb at *
      generalize x.2 = xm at *
      go_enter Tryz.func27, Tryz.ntmps27
      go_wp2_with fail
      refine HK.out.mono ?_
      rintro e w' ⟨rfl, hw⟩
      obtain rfl := hw.symm
      go_wp2_with fail
      go_ret
      exact ⟨ret_int HZ.out.1.symm, by rw [HZ.out.2]; exact HP.out.1, HP.out.2⟩
    | [], h, _, _, _, _ => exact h.elim
  · have HZ : Hid (dcZ env s.data.toList = 9 ∧ dcEnv env s.data.toList k = env) := by
      unfold dcZ dcEnv; rw [if_pos hv, if_pos hv]; exact ⟨rfl, rfl⟩
    have HC : Hid (Chain w a (x :: bs) env) := hc
    have hne : (envAt env s.data.toList != 0) = true := by simpa using hv
    clear hc hv hs hk hn hnd
    generalize envAt env s.data.toList = v at *
    go_enter Tryz.func27, Tryz.ntmps27
    go_wp2_with fail
    refine HK.out.mono ?_
    rintro e w' ⟨rfl, hw⟩
    obtain rfl := hw.symm
    go_wp2_with fail
    go_ret
    exact ⟨ret_int HZ.out.1.symm, by rw [HZ.out.2]; exact HC.out, OnlyB.refl _ _⟩
end Go.Proofs.YtkkcgkpbbngloaaGreatDoor

/- The program's walker: its block, its scopes, the functions ahead, and those called so far. -/
namespace Go.Proofs.YtkkcgkpbbngloaaGreatDoor
open Go.RowKit Go.Sort

/-- All but some blocks lie as they did. -/
def Fr (S : List Nat) (W W' : World) : Prop := W'.os = W.os ∧ W'.tape = W.tape ∧ W'.output = W.output ∧ W.heap.size ≤ W'.heap.size ∧ ∀ k, k < W.heap.size → k ∉ S → W'.heap[k]? = W.heap[k]?
theorem Fr.refl (S : List Nat) (W : World) : Fr S W W := ⟨rfl, rfl, rfl, Nat.le_refl _, fun _ _ _ => rfl⟩
theorem Fr.size {S : List Nat} {A B : World} (h : Fr S A B) : A.heap.size ≤ B.heap.size := h.2.2.2.1
theorem Fr.trans' {S S' : List Nat} {A B C : World} (h : Fr S A B) (k : Fr S' B C) (hs : ∀ x ∈ S', x ∈ S ∨ A.heap.size ≤ x) : Fr S A C :=
  ⟨k.1.trans h.1, k.2.1.trans h.2.1, k.2.2.1.trans h.2.2.1, Nat.le_trans h.2.2.2.1 k.2.2.2.1, fun i h1 h2 => (k.2.2.2.2 i (Nat.lt_of_lt_of_le h1 h.2.2.2.1) (fun hx => by rcases hs i hx with h' | h'; exact h2 h'; omega)).trans (h.2.2.2.2 i h1 h2)⟩
theorem Fr.trans {S : List Nat} {A B C : World} (h : Fr S A B) (k : Fr S B C) : Fr S A C := h.trans' k fun _ hx => .inl hx
theorem Fr.mono {S S' : List Nat} {A B : World} (h : Fr S A B) (hs : ∀ k ∈ S, k ∈ S') : Fr S' A B := ⟨h.1, h.2.1, h.2.2.1, h.2.2.2.1, fun i h1 h2 => h.2.2.2.2 i h1 (fun e => h2 (hs i e))⟩
theorem Fr.of_below {S : List Nat} {A B : World} (h : Below A.heap.size A B) : Fr S A B := ⟨h.os, h.tape, h.output, h.size, fun i h1 _ => h.block i h1⟩
theorem Fr.of_only {b : Nat} {A B : World} (h : OnlyB b A B) : Fr [b] A B := ⟨h.1, h.2.1, h.2.2.1, h.2.2.2.1, fun i h1 h2 => h.2.2.2.2 i h1 (fun e => h2 (by simp [e]))⟩
theorem Fr.of_grown {r : Option Nat} {A B : World} (h : A.grownBy B r) : Fr r.toList A B := ⟨h.1, h.2, h.3, h.4, fun i h1 h2 => h.5 i h1 (fun e => h2 (by rw [← e]; simp))⟩
theorem Fr.below {S : List Nat} {A B : World} {N : Nat} (h : Fr S A B) (hs : ∀ k ∈ S, N ≤ k) (hN : N ≤ A.heap.size) : Below N A B := ⟨h.1, h.2.1, h.2.2.1, h.2.2.2.1, fun k hk => h.2.2.2.2 k (by omega) (fun e => by have := hs k e; omega)⟩
theorem Fr.set {S : List Nat} {A B : World} (h : Fr S A B) {g : Nat} (hg : g ∈ S) (i : Nat) (v : Value) : Fr S A (B.setCell ⟨g, i, none⟩ v) := h.trans ⟨rfl, rfl, rfl, by simp [World.setCell], fun k _ h2 => Below.heap_setCell _ _ _ _ (fun e => h2 (e ▸ hg))⟩
theorem Fr.alloc {S : List Nat} {A B : World} (h : Fr S A B) (o : Obj) : Fr S A (B.alloc o) := h.trans (Fr.of_below ((Below.refl _ B).alloc (Nat.le_refl _) o))
theorem Fr.cell {S : List Nat} {A B : World} (h : Fr S A B) {k i : Nat} (hk : k < A.heap.size) (hb : k ∉ S) : B.cell? ⟨k, i, none⟩ = A.cell? ⟨k, i, none⟩ := by
  have := h.2.2.2.2 k hk hb
  simp only [World.cell?, this]
theorem Tab.fr {W W' : World} {b : Nat} {l : List (List UInt8 × Int)} {S : List Nat} (h : Tab W b l) (ho : Fr S W W') (hm : b ∉ S) : Tab W' b l := h.keep (ho.2.2.2.2 b h.lt hm)
theorem Chain.fr {W W' : World} {a : Option Addr} {bs : List (Nat × Nat)} {env : Env} {S : List Nat} (h : Chain W a bs env) (ho : Fr S W W') (hm : ∀ b ∈ chB bs, b ∉ S) : Chain W' a bs env := h.keep fun b hx => ho.2.2.2.2 b (h.lt b hx) (hm b hx)

set_option maxHeartbeats 1000000 in
theorem within_any (a : Option Addr) (bs : List (Nat × Nat)) (env : Env) (w : World) (hc : Chain w a bs env) (hne : env ≠ []) :
    Calls Tryz.prog 102 #[.pointer a] w fun e w' => e = .returned (.pointer (some ⟨w.heap.size + 1, 0, none⟩)) ∧ Chain w' (some ⟨w.heap.size + 1, 0, none⟩) ((w.heap.size + 1, w.heap.size) :: bs) ((lvZ env == 0, []) :: env) ∧ Below w.heap.size w w' ∧ w.heap.size + 2 ≤ w'.heap.size := by
  match bs, env, hc, hne with
  | [], [], _, h => exact absurd rfl h
  | x :: bs, f :: env, hc, _ =>
    have HC := hc
    obtain ⟨rfl, ⟨a1, h2, h3⟩, h4⟩ := hc
    have k2 : w.cell? ⟨x.1, 2, none⟩ = some (.bool f.1) := by rw [Lib.cell_of_heap h2]; rfl
    have hx := (Array.getElem?_eq_some_iff.1 h2).1
    have hb1 : Below w.heap.size w (w.alloc (.map #[] 0)) := (Below.refl _ w).alloc (Nat.le_refl _) _
    have hb2 : Below w.heap.size w ((w.alloc (.map #[] 0)).alloc (.cells #[.pointer (some ⟨x.1, 0, none⟩), .map (some w.heap.size), .bool f.1] 80)) := hb1.alloc (by simp) _
    have hlv : (lvZ (f :: env) == 0) = f.1 := by
      show ((if f.1 = true then (0 : Int) else 32) == 0) = f.1
      cases f.1 <;> rfl
    have HP : Hid (Chain ((w.alloc (.map #[] 0)).alloc (.cells #[.pointer (some ⟨x.1, 0, none⟩), .map (some w.heap.size), .bool f.1] 80)) (some ⟨w.heap.size + 1, 0, none⟩) ((w.heap.size + 1, w.heap.size) :: x :: bs) ((lvZ (f :: env) == 0, []) :: f :: env)) := by
      refine ⟨rfl, ⟨_, ?_, HC.stay hb2⟩, (tab_made w).stay ((Below.refl _ _).alloc (Nat.le_refl _) _)⟩
      rw [hlv]
      have := heap_alloc_new (w.alloc (.map #[] 0)) (.cells #[.pointer (some ⟨x.1, 0, none⟩), .map (some w.heap.size), .bool f.1] 80)
      rwa [World.size_alloc] at this
    have HBB : Hid (Below w.heap.size w ((w.alloc (.map #[] 0)).alloc (.cells #[.pointer (some ⟨x.1, 0, none⟩), .map (some w.heap.size), .bool f.1] 80))) := hb2
    clear h2 h3 h4 HC hb1 hb2 hlv
    generalize x.1 = xb at *
    have hmm := @run_makeMap Tryz.prog
    go_enter Tryz.func102, Tryz.ntmps102
    go_wp2_with fail
    go_ret
    exact ⟨rfl, HP.out, HBB.out, by simp⟩
  | [], _ :: _, h, _ => exact h.elim
  | _ :: _, [], h, _ => exact h.elim
end Go.Proofs.YtkkcgkpbbngloaaGreatDoor

/- The program's walker: a call of a function ahead. -/
namespace Go.Proofs.YtkkcgkpbbngloaaGreatDoor
open Go.RowKit Go.Sort

def ob (v : Value) : List Nat := v.ownBlock.toList
/-- The walker: its block b, its scopes, the functions ahead (map fm), the statement's number, the calls so far; all of it behind N, no block twice. -/
def WS (N : Nat) (W : World) (b fm : Nat) (a : Option Addr) (bs : List (Nat × Nat)) (env : Env) (ft : List (List UInt8 × Int)) (m : Int) (v : Value) (cs : List Int) : Prop :=
  W.heap[b]? = some (.cells #[.pointer a, .map (some fm), .int .i64 m, v] 61 (0, 0)) ∧ Chain W a bs env ∧ Tab W fm ft ∧ W.ownsRow N 3 1 v cs.length (cs.map (Value.int .i64)) ∧
  (b :: fm :: chB bs).Nodup ∧ (∀ g ∈ ob v, g ∉ b :: fm :: chB bs) ∧ ∀ g ∈ b :: fm :: chB bs, N ≤ g
theorem WS.cellS {N b fm : Nat} {W : World} {a bs env ft m v cs} (h : WS N W b fm a bs env ft m v cs) : W.cell? ⟨b, 0, none⟩ = some (.pointer a) := by rw [Lib.cell_of_heap h.1]; rfl
theorem WS.cellF {N b fm : Nat} {W : World} {a bs env ft m v cs} (h : WS N W b fm a bs env ft m v cs) : W.cell? ⟨b, 1, none⟩ = some (.map (some fm)) := by rw [Lib.cell_of_heap h.1]; rfl
theorem WS.cellM {N b fm : Nat} {W : World} {a bs env ft m v cs} (h : WS N W b fm a bs env ft m v cs) : W.cell? ⟨b, 2, none⟩ = some (.int .i64 m) := by rw [Lib.cell_of_heap h.1]; rfl
theorem WS.cellV {N b fm : Nat} {W : World} {a bs env ft m v cs} (h : WS N W b fm a bs env ft m v cs) : W.cell? ⟨b, 3, none⟩ = some v := by rw [Lib.cell_of_heap h.1]; rfl
theorem WS.frozen {N b fm : Nat} {W : World} {a bs env ft m v cs} (h : WS N W b fm a bs env ft m v cs) (j : Nat) : W.frozen? ⟨b, j, none⟩ = false := Lib.frozen_of_heap h.1 _
theorem WS.lt {N b fm : Nat} {W : World} {a bs env ft m v cs} (h : WS N W b fm a bs env ft m v cs) : b < W.heap.size := (Array.getElem?_eq_some_iff.1 h.1).1
theorem own_lt {W : World} {N n : Nat} {v : Value} {xs : List Value} (h : W.ownsRow N 3 1 v n xs) : ∀ g ∈ ob v, N ≤ g ∧ g < W.heap.size := by
  intro g hg
  rcases h.2 with ⟨rfl, _⟩ | ⟨g', cap, cur, rfl, h1, h2, _⟩
  · simp [ob, Value.ownBlock] at hg
  · have : g = g' := by simpa [ob, Value.ownBlock] using hg
    subst this
    exact ⟨h1, (Array.getElem?_eq_some_iff.1 h2).1⟩
theorem own_keep {W W' : World} {N n : Nat} {v : Value} {xs : List Value} (h : W.ownsRow N 3 1 v n xs) (hk : ∀ g ∈ ob v, W'.heap[g]? = W.heap[g]?) : W'.ownsRow N 3 1 v n xs := by
  refine ⟨h.1, ?_⟩
  rcases h.2 with h0 | ⟨g', cap, cur, rfl, h1, h2, h3⟩
  · exact .inl h0
  · exact .inr ⟨g', cap, cur, rfl, h1, (hk g' (by simp [ob, Value.ownBlock])).trans h2, h3⟩
/-- Blocks laid behind leave the walker as it is. -/
theorem WS.fr {N b fm : Nat} {W W' : World} {a bs env ft m v cs} {S : List Nat} (h : WS N W b fm a bs env ft m v cs) (ho : Fr S W W') (h1 : ∀ g ∈ b :: fm :: chB bs, g ∉ S) (h2 : ∀ g ∈ ob v, g ∉ S) : WS N W' b fm a bs env ft m v cs := by
  obtain ⟨k1, k2, k3, k4, k5, k6, k7⟩ := h
  exact ⟨(ho.2.2.2.2 b (Array.getElem?_eq_some_iff.1 k1).1 (h1 b (by simp))).trans k1, k2.fr ho (fun g hg => h1 g (by simp [hg])), k3.fr ho (h1 fm (by simp)), own_keep k4 (fun g hg => ho.2.2.2.2 g (own_lt k4 g hg).2 (h2 g hg)), k5, k6, k7⟩
theorem WS.stay {N b fm : Nat} {W W' : World} {a bs env ft m v cs} (h : WS N W b fm a bs env ft m v cs) (hb : Below W.heap.size W W') : WS N W' b fm a bs env ft m v cs := h.fr (S := []) (Fr.of_below hb) (by simp) (by simp)

theorem own_form {W : World} {N n : Nat} {v : Value} {xs : List Value} (h : W.ownsRow N 3 1 v n xs) : ∃ ao cap, v = .slice ao n cap := by
  rcases h.2 with ⟨rfl, rfl⟩ | ⟨g', cap, cur, rfl, _⟩
  · exact ⟨_, _, rfl⟩
  · exact ⟨_, _, rfl⟩
theorem Tryz.infoInt : (Tryz.prog.info? 3).map (fun i => (i.zero, i.size, i.bytes)) = some (some (.int .i64 0), 1, 8) := by kernel_rfl
/-- What a call of a name comes to. -/
def clZ (ft : List (List UInt8 × Int)) (s : List UInt8) : Int := if tabHas ft s = true then 0 else 8

set_option maxRecDepth 100000 in
set_option maxHeartbeats 2000000 in
theorem call_any (s : ByteArray) (hs : s.size ≤ 140737488351232) (N b fm : Nat) (a : Option Addr) (bs : List (Nat × Nat)) (env : Env) (ft : List (List UInt8 × Int)) (m : Int) (v : Value) (cs : List Int) (w : World) (h : WS N w b fm a bs env ft m v cs) (hN : N ≤ w.heap.size) (hl : cs.length ≤ 1000000) :
    Calls Tryz.prog 110 #[.pointer (some ⟨b, 0, none⟩), .string s] w fun e w' => e = .returned (.int .i64 (clZ ft s.data.toList)) ∧ ∃ v' cs', WS N w' b fm a bs env ft m v' cs' ∧ (clZ ft s.data.toList = 0 → cs' = cs ++ [tabAt ft s.data.toList]) ∧ cs'.length ≤ cs.length + 1 ∧ Fr (b :: ob v) w w' ∧ ∀ g ∈ ob v', g ∈ ob v ∨ w.heap.size ≤ g := by
  have HL := h.2.2.1.look s (by unfold maxLen; omega)
  have c1 := h.cellF
  have c3 := h.cellV
  cases hh : tabHas ft s.data.toList
  · rw [hh] at HL
    have HZ : Hid (clZ ft s.data.toList = 8) := by show _ = _; unfold clZ; rw [hh]; rfl
    have HW : Hid (WS N w b fm a bs env ft m v cs) := h
    clear h hs hl
    go_enter Tryz.func110, Tryz.ntmps110
    go_wp2_with fail
    go_ret
    exact ⟨ret_int HZ.out.symm, v, cs, HW.out, fun e => absurd (HZ.out.symm.trans e) (by decide), by omega, Fr.refl _ _, fun g hg => Or.inl hg⟩
  · rw [hh] at HL
    have HZ : Hid (clZ ft s.data.toList = 0) := by show _ = _; unfold clZ; rw [hh]; rfl
    generalize tabAt ft s.data.toList = num at *
    obtain ⟨ao, cap, rfl⟩ := own_form h.2.2.2.1
    have HW : Hid (WS N w b fm a bs env ft m (.slice ao cs.length cap) cs) := h
    have hlt := h.lt
    have hov := h.2.2.2.1
    have hbo : b ∉ ob (.slice ao cs.length cap) := fun hx => h.2.2.2.2.2.1 b hx (by simp)
    obtain ⟨i0, hi, hz0, hz1, hz2⟩ := info_parts Tryz.infoInt
    clear h hs
    have hnew : ∀ j u, ([.int .i64 num] : List Value)[j]? = some u → (w.alloc (.cells #[.int .i64 num] 3)).cell? ((⟨w.heap.size, 0, none⟩ : Addr).add j) = some u := new_cell _ _ _
    go_enter Tryz.func110, Tryz.ntmps110
    go_wp2_with (at_builtin; refine wpList_append_own_at _ rfl _ _ 32 rfl N 3 i0 (.int .i64 0) 1 8 Tryz.underlying32 hi hz0 hz1 hz2 rfl (by decide) _ _ _ rfl (hov.alloc _) ⟨w.heap.size, 0, none⟩ 1 1 [.int .i64 num] rfl rfl hnew ?c2 ?c3 ?c4 ?c5 ?_)
    case c2 => intro u hu; simp at hu; subst hu; rfl
    case c3 => unfold maxLen; omega
    case c4 => omega
    case c5 => simp; omega
    intro v' w2 hown' hgrow _ hat
    have hfr1 : Fr (b :: ob (.slice ao cs.length cap)) w (w.alloc (.cells #[.int .i64 num] 3)) := (Fr.refl _ w).alloc _
    have hfr2 : Fr (b :: ob (.slice ao cs.length cap)) (w.alloc (.cells #[.int .i64 num] 3)) w2 := (Fr.of_grown hgrow).mono fun k hk => List.mem_cons_of_mem _ hk
    have hfr : Fr (ob (.slice ao cs.length cap)) w w2 := ((Fr.refl _ w).alloc _).trans (Fr.of_grown hgrow)
    have hblk := hfr.2.2.2.2 b hlt hbo
    have hb2 : w2.heap[b]? = some (.cells #[.pointer a, .map (some fm), .int .i64 m, .slice ao cs.length cap] 61 (0, 0)) := hblk.trans HW.out.1
    have d3 : w2.cell? ⟨b, 3, none⟩ = some (.slice ao cs.length cap) := by rw [Lib.cell_of_heap hb2]; rfl
    have f3 : w2.frozen? ⟨b, 3, none⟩ = false := Lib.frozen_of_heap hb2 3
    obtain ⟨g, cap', rfl⟩ : ∃ g cap', v' = .slice (some ⟨g, 0, none⟩) (cs.length + 1) cap' := by
      rcases hown'.2 with ⟨_, h0⟩ | ⟨g, cap', cur, hv, _⟩
      · omega
      · exact ⟨g, cap', hv⟩
    have HP : Hid (WS N (w2.setCell ⟨b, 3, none⟩ (.slice (some ⟨g, 0, none⟩) (cs.length + 1) cap')) b fm a bs env ft m (.slice (some ⟨g, 0, none⟩) (cs.length + 1) cap') (cs ++ [num]) ∧ Fr (b :: ob (.slice ao cs.length cap)) w (w2.setCell ⟨b, 3, none⟩ (.slice (some ⟨g, 0, none⟩) (cs.length + 1) cap')) ∧ (g ∈ ob (.slice ao cs.length cap) ∨ w.heap.size ≤ g)) := by
      obtain ⟨k1, k2, k3, k4, k5, k6, k7⟩ := HW.out
      have hg0 : g ∈ ob (.slice ao cs.length cap) ∨ w.heap.size ≤ g := by
        rcases hat with e | e
        · left; unfold ob; rw [← e]; simp [Value.ownBlock]
        · right
          have : g = w.heap.size + 1 := by simpa [Value.ownBlock] using e
          omega
      have hgn : g ∉ b :: fm :: chB bs := by
        rcases hg0 with hx | hx
        · exact k6 g hx
        · intro hm
          rcases List.mem_cons.1 hm with rfl | hm
          · omega
          rcases List.mem_cons.1 hm with rfl | hm
          · have := k3.lt; omega
          · have := k2.lt g hm; omega
      have hset : Fr [b] w2 (w2.setCell ⟨b, 3, none⟩ (.slice (some ⟨g, 0, none⟩) (cs.length + 1) cap')) := (Fr.refl _ w2).set (by simp) _ _
      have hnd := List.nodup_cons.1 k5
      refine ⟨⟨?_, (k2.fr hfr (fun x hx hy => k6 x hy (by simp [hx]))).fr hset (fun x hx hy => ?_), (k3.fr hfr (fun hy => k6 fm hy (by simp))).fr hset (fun hy => ?_), ?_, k5, fun x hx => ?_, k7⟩, ?_, hg0⟩
      · simp [World.setCell, Array.getElem?_modify, hb2]
      · have : x = b := by simpa using hy
        subst this
        exact hnd.1 (by simp [hx])
      · have : fm = b := by simpa using hy
        exact hnd.1 (by simp [this])
      · refine own_keep (W := w2) ?_ (fun x hx => ?_)
        · simpa using hown'
        · refine hset.2.2.2.2 x ?_ (fun hy => ?_)
          · rcases hown'.2 with ⟨h0, _⟩ | ⟨g', _, _, hv, _, h2, _⟩
            · cases h0
            · have e1 : x = g := by simpa [ob, Value.ownBlock] using hx
              have e2 : g = g' := by cases hv; rfl
              subst e1 e2
              exact (Array.getElem?_eq_some_iff.1 h2).1
          · have e1 : x = g := by simpa [ob, Value.ownBlock] using hx
            have e2 : x = b := by simpa using hy
            exact hgn (by rw [← e1, e2]; simp)
      · have e1 : x = g := by simpa [ob, Value.ownBlock] using hx
        rw [e1]; exact hgn
      · exact (hfr1.trans hfr2).set (by simp) _ _
    clear hfr hfr1 hfr2 hblk hb2 hown' hgrow hat hov hnew
    go_wp2_with fail
    go_ret
    exact ⟨ret_int HZ.out.symm, _, _, HP.out.1, fun _ => rfl, by simp, HP.out.2.1, fun x hx => by
      have e1 : x = g := by simpa [ob, Value.ownBlock] using hx
      rw [e1]; exact HP.out.2.2⟩
end Go.Proofs.YtkkcgkpbbngloaaGreatDoor

/- The program's walker: a name in an expression. -/
namespace Go.Proofs.YtkkcgkpbbngloaaGreatDoor
open Go.RowKit Go.Sort

/-- What an expression's own name comes to, and whom it calls. -/
def nmZ (env : Env) (ft : List (List UInt8 × Int)) (k : Int) (s : List UInt8) : Int := if k = 2 then rdZ (envAt env s) else if k = 3 then ixZ (envAt env s) else if k = 4 then clZ ft s else 0
def nmC (ft : List (List UInt8 × Int)) (k : Int) (s : List UInt8) : List Int := if k = 4 then [tabAt ft s] else []
/-- What a look at expressions leaves: the walker, with more calls; all else as it was. -/
def NP (N b fm : Nat) (a : Option Addr) (bs : List (Nat × Nat)) (env : Env) (ft : List (List UInt8 × Int)) (m : Int) (v : Value) (cs : List Int) (k : Nat) (w w' : World) (r : Int) (c : List Int) : Prop :=
  ∃ v' cs', WS N w' b fm a bs env ft m v' cs' ∧ (r = 0 → cs' = cs ++ c) ∧ cs'.length ≤ cs.length + k ∧ Fr (b :: ob v) w w' ∧ ∀ g ∈ ob v', g ∈ ob v ∨ w.heap.size ≤ g
theorem NP.stay {N b fm : Nat} {a bs env ft m v cs k} {w w' : World} {r : Int} {c : List Int} (h : WS N w b fm a bs env ft m v cs) (hb : Below w.heap.size w w') (hc : r = 0 → c = []) : NP N b fm a bs env ft m v cs k w w' r c :=
  ⟨v, cs, h.stay hb, fun e => by rw [hc e, List.append_nil], by omega, Fr.of_below hb, fun g hg => Or.inl hg⟩
theorem NP.step {N b fm : Nat} {a bs env ft m v cs k v1 cs1 k1} {w w1 w2 : World} {r : Int} {c c1 : List Int} (h1 : cs1 = cs ++ c1) (h2 : cs1.length ≤ cs.length + k1) (h3 : Fr (b :: ob v) w w1) (h4 : ∀ g ∈ ob v1, g ∈ ob v ∨ w.heap.size ≤ g)
    (h : NP N b fm a bs env ft m v1 cs1 k w1 w2 r c) : NP N b fm a bs env ft m v cs (k1 + k) w w2 r (c1 ++ c) := by
  obtain ⟨v', cs', i1, i2, i3, i4, i5⟩ := h
  refine ⟨v', cs', i1, fun e => by rw [i2 e, h1, List.append_assoc], by omega, h3.trans' i4 fun x hx => ?_, fun g hg => ?_⟩
  · rcases List.mem_cons.1 hx with rfl | hx
    · exact Or.inl (by simp)
    · rcases h4 x hx with h' | h'
      · exact Or.inl (by simp [h'])
      · exact Or.inr h'
  · rcases i5 g hg with h' | h'
    · exact h4 g h'
    · exact Or.inr (Nat.le_trans h3.size h')

set_option maxRecDepth 100000 in
set_option maxHeartbeats 2000000 in
theorem nnamed_any (x : Ex) (hs : x.name.size ≤ 140737488351232) (N b fm : Nat) (a : Option Addr) (bs : List (Nat × Nat)) (env : Env) (ft : List (List UInt8 × Int)) (m : Int) (v : Value) (cs : List Int) (w : World) (h : WS N w b fm a bs env ft m v cs) (hN : N ≤ w.heap.size) (hl : cs.length ≤ 1000000) :
    Calls Tryz.prog 99 #[.pointer (some ⟨b, 0, none⟩), x.val] w fun e w' => e = .returned (.int .i64 (nmZ env ft x.kind x.name.data.toList)) ∧ NP N b fm a bs env ft m v cs 1 w w' (nmZ env ft x.kind x.name.data.toList) (nmC ft x.kind x.name.data.toList) := by
  have hb1 := (Below.refl _ w).alloc (Nat.le_refl _) (.cells #[.int .i64 x.kind, .int .i64 x.n, .string x.name, .slice x.a x.args.length x.cap] 41)
  have hw1 := h.stay hb1
  have xc := cell_new w #[.int .i64 x.kind, .int .i64 x.n, .string x.name, .slice x.a x.args.length x.cap] 41
  have x2 := xc 2 _ rfl
  have k0 := cell_regrown hw1.cellS
  have HB : Hid (∀ d os, Below w.heap.size w (grow (redrawn (w.alloc (.cells #[.int .i64 x.kind, .int .i64 x.n, .string x.name, .slice x.a x.args.length x.cap] 41)) d) os)) := fun d os => hb1.trans ((below_regrown _ d os).mono (by simp))
  have HW : Hid (WS N w b fm a bs env ft m v cs) := h
  have KR : Hid (∀ w', Below w.heap.size w w' → Calls Tryz.prog 100 #[.pointer a, .string x.name] w' fun e w'' => e = .returned (.int .i64 (rdZ (envAt env x.name.data.toList))) ∧ Below w'.heap.size w' w'') := fun w' hb => (read_any x.name hs a bs env w' (h.2.1.stay hb)).mono fun e w'' ⟨h1, h2⟩ => ⟨h1, by rw [h2]; exact Below.refl _ _⟩
  have KI : Hid (∀ w', Below w.heap.size w w' → Calls Tryz.prog 75 #[.pointer a, .string x.name] w' fun e w'' => e = .returned (.int .i64 (ixZ (envAt env x.name.data.toList))) ∧ Below w'.heap.size w' w'') := fun w' hb => (index_any' x.name hs a bs env w' (h.2.1.stay hb)).mono fun e w'' ⟨h1, h2⟩ => ⟨h1, by rw [h2]; exact Below.refl _ _⟩
  have KC : Hid (∀ w', Below w.heap.size w w' → Calls Tryz.prog 110 #[.pointer (some ⟨b, 0, none⟩), .string x.name] w' fun e w'' => e = .returned (.int .i64 (clZ ft x.name.data.toList)) ∧ NP N b fm a bs env ft m v cs 1 w' w'' (clZ ft x.name.data.toList) [tabAt ft x.name.data.toList]) := fun w' hb => call_any x.name hs N b fm a bs env ft m v cs w' (h.stay hb) (Nat.le_trans hN hb.size) hl
  clear xc h hw1
  unfold Ex.val
  cases e2 : (x.kind == 2)
  · cases e3 : (x.kind == 3)
    · cases e4 : (x.kind == 4)
      · have HZ : Hid (nmZ env ft x.kind x.name.data.toList = 0 ∧ nmC ft x.kind x.name.data.toList = []) := by
          unfold nmZ nmC; rw [if_neg (by simpa using e2), if_neg (by simpa using e3), if_neg (by simpa using e4), if_neg (by simpa using e4)]; exact ⟨rfl, rfl⟩
        clear x2 k0
        go_enter Tryz.func99, Tryz.ntmps99
        go_wp2_with fail
        go_ret
        exact ⟨ret_int HZ.out.1.symm, NP.stay HW.out hb1 fun _ => HZ.out.2⟩
      · have HZ : Hid (nmZ env ft x.kind x.name.data.toList = clZ ft x.name.data.toList ∧ nmC ft x.kind x.name.data.toList = [tabAt ft x.name.data.toList]) := by
          unfold nmZ nmC; rw [if_neg (by simpa using e2), if_neg (by simpa using e3), if_pos (by simpa using e4), if_pos (by simpa using e4)]; exact ⟨rfl, rfl⟩
        rw [HZ.out.1, HZ.out.2]
        generalize clZ ft x.name.data.toList = r at *
        clear x2 k0
        go_enter Tryz.func99, Tryz.ntmps99
        go_wp2_with fail
        refine (KC.out _ hb1).mono ?_
        rintro e w2 ⟨rfl, hp⟩
        have HP : Hid (NP N b fm a bs env ft m v cs 1 w w2 r [tabAt ft x.name.data.toList]) := NP.step (k1 := 0) (c1 := []) (by simp) (by omega) (Fr.of_below hb1) (fun g hg => Or.inl hg) hp
        clear hp
        go_wp2_with fail
        go_ret
        exact ⟨rfl, HP.out⟩
    · have HZ : Hid (nmZ env ft x.kind x.name.data.toList = ixZ (envAt env x.name.data.toList) ∧ nmC ft x.kind x.name.data.toList = []) := by
        have h3 : x.kind = 3 := by simpa using e3
        unfold nmZ nmC; rw [if_neg (by simpa using e2), if_pos h3, if_neg (by omega)]; exact ⟨rfl, rfl⟩
      rw [HZ.out.1, HZ.out.2]
      generalize ixZ (envAt env x.name.data.toList) = r at *
      go_enter Tryz.func99, Tryz.ntmps99
      go_wp2_with fail
      refine wp_region_quiet_below (by kernel_rfl) (by kernel_rfl) ?_
      repeat (go_big_quiet_step (first | (go_at_call 75; with_reducible exact Calls.regrown_of (KI.out _ (HB.out _ _)))))
      refine wpQuiet_nil ?_
      intro _ hw'
      obtain ⟨⟨dq, osq⟩, hw''⟩ := hw'
      subst hw''
      clear x2 k0
      have hbq := HB.out dq osq
      go_wp2_with fail
      go_ret
      exact ⟨rfl, NP.stay HW.out hbq fun _ => rfl⟩
  · have HZ : Hid (nmZ env ft x.kind x.name.data.toList = rdZ (envAt env x.name.data.toList) ∧ nmC ft x.kind x.name.data.toList = []) := by
      have h2 : x.kind = 2 := by simpa using e2
      unfold nmZ nmC; rw [if_pos h2, if_neg (by omega)]; exact ⟨rfl, rfl⟩
    rw [HZ.out.1, HZ.out.2]
    generalize rdZ (envAt env x.name.data.toList) = r at *
    go_enter Tryz.func99, Tryz.ntmps99
    go_wp2_with fail
    refine wp_region_quiet_below (by kernel_rfl) (by kernel_rfl) ?_
    repeat (go_big_quiet_step (first | (go_at_call 100; with_reducible exact Calls.regrown_of (KR.out _ (HB.out _ _)))))
    refine wpQuiet_nil ?_
    intro _ hw'
    obtain ⟨⟨dq, osq⟩, hw''⟩ := hw'
    subst hw''
    clear x2 k0
    have hbq := HB.out dq osq
    go_wp2_with fail
    go_ret
    exact ⟨rfl, NP.stay HW.out hbq fun _ => rfl⟩
end Go.Proofs.YtkkcgkpbbngloaaGreatDoor

/- The program's walker: an expression. -/
namespace Go.Proofs.YtkkcgkpbbngloaaGreatDoor
open Go.RowKit Go.Sort

mutual
def exZ (env : Env) (ft : List (List UInt8 × Int)) : Ex → Int
  | .mk k _ s _ _ l => if nmZ env ft k s.data.toList ≠ 0 then nmZ env ft k s.data.toList else exLZ env ft l
def exLZ (env : Env) (ft : List (List UInt8 × Int)) : List Ex → Int
  | [] => 0
  | x :: r => if exZ env ft x ≠ 0 then exZ env ft x else exLZ env ft r
end
mutual
def exC (ft : List (List UInt8 × Int)) : Ex → List Int
  | .mk k _ s _ _ l => nmC ft k s.data.toList ++ exLC ft l
def exLC (ft : List (List UInt8 × Int)) : List Ex → List Int
  | [] => []
  | x :: r => exC ft x ++ exLC ft r
end
theorem exZ_eq (env : Env) (ft : List (List UInt8 × Int)) (x : Ex) : exZ env ft x = if nmZ env ft x.kind x.name.data.toList ≠ 0 then nmZ env ft x.kind x.name.data.toList else exLZ env ft x.args := by cases x; rw [exZ]; rfl
theorem exC_eq (ft : List (List UInt8 × Int)) (x : Ex) : exC ft x = nmC ft x.kind x.name.data.toList ++ exLC ft x.args := by cases x; simp only [exC, Ex.kind, Ex.name, Ex.args]
theorem exLZ_drop {env : Env} {ft : List (List UInt8 × Int)} {l : List Ex} {j : Nat} (h : j < l.length) : exLZ env ft (l.drop j) = if exZ env ft l[j] ≠ 0 then exZ env ft l[j] else exLZ env ft (l.drop (j + 1)) := by
  rw [List.drop_eq_getElem_cons h, exLZ]
theorem exLC_take (ft : List (List UInt8 × Int)) : ∀ (l : List Ex) (j : Nat) (h : j < l.length), exLC ft (l.take (j + 1)) = exLC ft (l.take j) ++ exC ft l[j]
  | x :: r, 0, _ => by simp [exLC]
  | x :: r, j + 1, h => by rw [List.take_succ_cons, exLC, exLC_take ft r j (by simpa using h), List.take_succ_cons, exLC, List.getElem_cons_succ, List.append_assoc]
theorem szL_take : ∀ (l : List Ex) (j : Nat) (h : j < l.length), szL (l.take (j + 1)) = szL (l.take j) + l[j].sz
  | x :: r, 0, _ => by simp [szL]
  | x :: r, j + 1, h => by rw [List.take_succ_cons, szL, szL_take r j (by simpa using h), List.take_succ_cons, szL, List.getElem_cons_succ]; omega
theorem szL_take_le : ∀ (l : List Ex) (j : Nat), szL (l.take j) ≤ szL l
  | [], j => by simp
  | x :: r, 0 => by simp [szL]
  | x :: r, j + 1 => by rw [List.take_succ_cons, szL, szL]; have := szL_take_le r j; omega
theorem WS.on {N b fm : Nat} {W W' : World} {a bs env ft m v cs} (h : WS N W b fm a bs env ft m v cs) (hf : Fr (b :: ob v) W W') (hN : N ≤ W.heap.size) : Below N W W' := hf.below (fun k hk => by
  rcases List.mem_cons.1 hk with rfl | hk
  · exact h.2.2.2.2.2.2 k (by simp)
  · exact (own_lt h.2.2.2.1 k hk).1) hN
theorem WS.new {N b fm : Nat} {W : World} {a bs env ft m v cs} (h : WS N W b fm a bs env ft m v cs) {k : Nat} (hk : W.heap.size ≤ k) : k ∉ b :: ob v := fun hx => by
  rcases List.mem_cons.1 hx with rfl | hx
  · have := h.lt; omega
  · have := (own_lt h.2.2.2.1 k hx).2; omega

set_option maxRecDepth 100000 in
set_option maxHeartbeats 4000000 in
theorem nexpr_step (w0 : World) (b fm : Nat) (a : Option Addr) (bs : List (Nat × Nat)) (env : Env) (ft : List (List UInt8 × Int)) (k : Nat)
    (ih : ∀ (x : Ex) (m : Int) (v : Value) (cs : List Int) (w : World), x.sz ≤ k → x.In w0 → Below w0.heap.size w0 w → WS w0.heap.size w b fm a bs env ft m v cs → cs.length + x.sz ≤ 1000000 → Calls Tryz.prog 73 #[.pointer (some ⟨b, 0, none⟩), x.val] w fun e w' => e = .returned (.int .i64 (exZ env ft x)) ∧ NP w0.heap.size b fm a bs env ft m v cs x.sz w w' (exZ env ft x) (exC ft x))
    (x : Ex) (m : Int) (v : Value) (cs : List Int) (w : World) (hk : x.sz ≤ k + 1) (hin : x.In w0) (hB : Below w0.heap.size w0 w) (hw : WS w0.heap.size w b fm a bs env ft m v cs) (hl : cs.length + x.sz ≤ 1000000) :
    Calls Tryz.prog 73 #[.pointer (some ⟨b, 0, none⟩), x.val] w fun e w' => e = .returned (.int .i64 (exZ env ft x)) ∧ NP w0.heap.size b fm a bs env ft m v cs x.sz w w' (exZ env ft x) (exC ft x) := by
  obtain ⟨_, _, hnm, hlc, hcc, _, hrow, hsub⟩ := Ex.in_iff.1 hin
  have hsz := x.sz_args
  have IH : Hid (∀ (x : Ex) (m : Int) (v : Value) (cs : List Int) (w : World), x.sz ≤ k → x.In w0 → Below w0.heap.size w0 w → WS w0.heap.size w b fm a bs env ft m v cs → cs.length + x.sz ≤ 1000000 → Calls Tryz.prog 73 #[.pointer (some ⟨b, 0, none⟩), x.val] w fun e w' => e = .returned (.int .i64 (exZ env ft x)) ∧ NP w0.heap.size b fm a bs env ft m v cs x.sz w w' (exZ env ft x) (exC ft x)) := ih
  have HS : Hid (∀ y ∈ x.args, Ex.In w0 y) := hsub
  have HR : Hid (RowIn w0 x.a 4 (List.map Ex.cells x.args)) := hrow
  have HBW : Hid (Below w0.heap.size w0 w) := hB
  have HW : Hid (WS w0.heap.size w b fm a bs env ft m v cs) := hw
  have HSZ : Hid (x.sz = szL x.args + 1 ∧ x.sz ≤ k + 1 ∧ cs.length + x.sz ≤ 1000000) := ⟨by omega, hk, hl⟩
  have hb1 := (Below.refl _ w).alloc (Nat.le_refl _) (.cells #[.int .i64 x.kind, .int .i64 x.n, .string x.name, .slice x.a x.args.length x.cap] 41)
  have HNM : Hid (Calls Tryz.prog 99 #[.pointer (some ⟨b, 0, none⟩), x.val] (w.alloc (.cells #[.int .i64 x.kind, .int .i64 x.n, .string x.name, .slice x.a x.args.length x.cap] 41)) fun e w' => e = .returned (.int .i64 (nmZ env ft x.kind x.name.data.toList)) ∧ NP w0.heap.size b fm a bs env ft m v cs 1 (w.alloc (.cells #[.int .i64 x.kind, .int .i64 x.n, .string x.name, .slice x.a x.args.length x.cap] 41)) w' (nmZ env ft x.kind x.name.data.toList) (nmC ft x.kind x.name.data.toList)) :=
    nnamed_any x hnm _ b fm a bs env ft m v cs _ (hw.stay hb1) (by have := hB.size; simp; omega) (by omega)
  have HZ : Hid (exZ env ft x = if nmZ env ft x.kind x.name.data.toList ≠ 0 then nmZ env ft x.kind x.name.data.toList else exLZ env ft x.args) := exZ_eq env ft x
  have HCC : Hid (exC ft x = nmC ft x.kind x.name.data.toList ++ exLC ft x.args) := exC_eq ft x
  have hbx := boxE_new w x
  have hNw : w0.heap.size ≤ w.heap.size := hB.size
  generalize exZ env ft x = res at HZ ⊢
  generalize exC ft x = resC at HCC ⊢
  generalize nmZ env ft x.kind x.name.data.toList = r0 at HZ HNM
  generalize nmC ft x.kind x.name.data.toList = c0 at HCC HNM
  clear ih hin hB hw hrow hsub hk hl hnm hsz
  unfold Ex.val at HNM ⊢
  go_enter Tryz.func73, Tryz.ntmps73
  go_wp2_with fail
  refine HNM.out.mono ?_
  rintro e w1 ⟨rfl, hp⟩
  have hs1 : w.heap.size < (w.alloc (.cells #[.int .i64 x.kind, .int .i64 x.n, .string x.name, .slice x.a x.args.length x.cap] 41)).heap.size := by simp
  have hp0 : NP w0.heap.size b fm a bs env ft m v cs 1 w w1 r0 c0 := NP.step (k1 := 0) (c1 := []) (by simp) (by omega) (Fr.of_below hb1) (fun g hg => Or.inl hg) hp
  have hbx1 : BoxE w1 w.heap.size x := by
    obtain ⟨_, _, _, _, _, hf, _⟩ := hp
    exact fun i u hi => (hf.cell hs1 (HW.out.new (Nat.le_refl _))).trans (hbx i u hi)
  have HBX : Hid (BoxE w1 w.heap.size x) := hbx1
  have HNP : Hid (NP w0.heap.size b fm a bs env ft m v cs 1 w w1 r0 c0) := hp0
  have x3 := hbx1 3 _ rfl
  clear hp hp0 hbx1 hbx hb1 hs1 HNM
  cases hr : (r0 != 0)
  · have hr0 : r0 = 0 := by simpa using hr
    have HF : Hid (res = exLZ env ft x.args) := by show _ = _; rw [HZ.out, if_neg (by simpa using hr0)]
    obtain ⟨v1, cs1, i1, i2, i3, i4, i5⟩ := HNP.out
    have HI : Hid (WS w0.heap.size w1 b fm a bs env ft m v1 cs1 ∧ cs1 = cs ++ c0 ∧ Fr (b :: ob v) w w1 ∧ (∀ g ∈ ob v1, g ∈ ob v ∨ w.heap.size ≤ g) ∧ cs1.length ≤ cs.length + 1) := ⟨i1, i2 hr0, i4, i5, i3⟩
    clear i1 i2 i3 i4 i5 HNP HZ hr0
    obtain ⟨kd, nn, nm, xa, xc, l⟩ := x
    simp only [Ex.kind, Ex.n, Ex.name, Ex.a, Ex.cap, Ex.args] at *
    go_wp2_with fail
    go_loopw [18] (fun t18 wr => ∃ (j : Nat) (v' : Value) (cs' : List Int), j ≤ l.length ∧ t18 = .int .i64 j ∧ exLZ env ft (l.drop j) = res ∧ WS w0.heap.size wr b fm a bs env ft m v' cs' ∧ cs' = cs ++ (c0 ++ exLC ft (l.take j)) ∧ cs'.length ≤ cs.length + 1 + szL (l.take j) ∧ Fr (b :: ob v) w wr ∧ ∀ g ∈ ob v', g ∈ ob v ∨ w.heap.size ≤ g) (fun t18 _ => l.length - (intOf t18).toNat)
    case atStart => exact ⟨0, v1, cs1, Nat.zero_le _, rfl, HF.out.symm, HI.out.1, by rw [HI.out.2.1]; simp [exLC], by have := HI.out.2.2.2.2; simp [szL]; omega, HI.out.2.2.1, HI.out.2.2.2.1⟩
    case round =>
      obtain ⟨j, v', cs', hj, rfl, hz, hws, hcs, hcl, hfr, hob⟩ := hrel
      have HX : Hid (WS w0.heap.size wr b fm a bs env ft m v' cs' ∧ cs' = cs ++ (c0 ++ exLC ft (l.take j)) ∧ cs'.length ≤ cs.length + 1 + szL (l.take j) ∧ Fr (b :: ob v) w wr ∧ ∀ g ∈ ob v', g ∈ ob v ∨ w.heap.size ≤ g) := ⟨hws, hcs, hcl, hfr, hob⟩
      have HQ : Hid (exLZ env ft (l.drop j) = res) := hz
      have HBR : Hid (Below w0.heap.size w0 wr) := HBW.out.trans (HW.out.on hfr hNw)
      clear hws hcs hcl hfr hob hz
      by_cases hlt : j < l.length
      · obtain ⟨g, o, rfl, c0', c1, c2, c3⟩ := row_at (HR.out.below HBR.out) hlt
        have hli : (j : Int) < (l.length : Int) := by omega
        have HD : Hid (exLZ env ft (l.drop j) = if exZ env ft l[j] ≠ 0 then exZ env ft l[j] else exLZ env ft (l.drop (j + 1))) := exLZ_drop hlt
        have HT : Hid (exLC ft (l.take (j + 1)) = exLC ft (l.take j) ++ exC ft l[j] ∧ szL (l.take (j + 1)) = szL (l.take j) + l[j].sz ∧ l[j].sz ≤ szL l ∧ szL (l.take (j + 1)) ≤ szL l) := ⟨exLC_take ft l j hlt, szL_take l j hlt, szL_mem (List.getElem_mem hlt), szL_take_le l _⟩
        have HY : Hid (Ex.In w0 l[j]) := HS.out _ (List.getElem_mem hlt)
        generalize l[j] = y at *
        have hb2 := (Below.refl _ wr).alloc (Nat.le_refl _) (.cells #[.int .i64 y.kind, .int .i64 y.n, .string y.name, .slice y.a y.args.length y.cap] 41)
        have HCL : Hid (Calls Tryz.prog 73 #[.pointer (some ⟨b, 0, none⟩), y.val] (wr.alloc (.cells #[.int .i64 y.kind, .int .i64 y.n, .string y.name, .slice y.a y.args.length y.cap] 41)) fun e w' => e = .returned (.int .i64 (exZ env ft y)) ∧ NP w0.heap.size b fm a bs env ft m v' cs' y.sz (wr.alloc (.cells #[.int .i64 y.kind, .int .i64 y.n, .string y.name, .slice y.a y.args.length y.cap] 41)) w' (exZ env ft y) (exC ft y)) :=
          IH.out y m v' cs' _ (by have := HT.out.2.2.1; have := HSZ.out; omega) HY.out (HBR.out.trans (hb2.mono HBR.out.size)) (HX.out.1.stay hb2) (by have := HT.out.2; have := HSZ.out; have := HX.out.2.2.1; omega)
        have HST : Hid (∀ w2, NP w0.heap.size b fm a bs env ft m v' cs' y.sz (wr.alloc (.cells #[.int .i64 y.kind, .int .i64 y.n, .string y.name, .slice y.a y.args.length y.cap] 41)) w2 (exZ env ft y) (exC ft y) → NP w0.heap.size b fm a bs env ft m v' cs' y.sz wr w2 (exZ env ft y) (exC ft y)) := fun w2 hp => by
          have := NP.step (v := v') (cs := cs') (k1 := 0) (c1 := []) (w := wr) (by simp : cs' = cs' ++ []) (by omega) (Fr.of_below hb2) (fun g hg => Or.inl hg) hp
          simpa using this
        generalize exZ env ft y = ry at *
        generalize exC ft y = cy at *
        unfold Ex.val at HCL
        clear hb2
        go_wp2_with fail
        refine HCL.out.mono ?_
        rintro e w2 ⟨rfl, hp⟩
        have HP2 : Hid (NP w0.heap.size b fm a bs env ft m v' cs' y.sz wr w2 ry cy) := HST.out w2 hp
        clear hp HCL HST c0' c1 c2 c3 x3
        cases hry : (ry != 0)
        · have hry0 : ry = 0 := by simpa using hry
          have HV : Hid (exLZ env ft (l.drop (j + 1)) = res) := by show _ = _; rw [← HQ.out, HD.out, if_neg (by simpa using hry0)]
          obtain ⟨v2, cs2, i1, i2, i3, i4, i5⟩ := HP2.out
          have HG : Hid (∃ v2 cs2, WS w0.heap.size w2 b fm a bs env ft m v2 cs2 ∧ cs2 = cs ++ (c0 ++ exLC ft (l.take (j + 1))) ∧ cs2.length ≤ cs.length + 1 + szL (l.take (j + 1)) ∧ Fr (b :: ob v) w w2 ∧ ∀ g ∈ ob v2, g ∈ ob v ∨ w.heap.size ≤ g) := by
            refine ⟨v2, cs2, i1, ?_, ?_, HX.out.2.2.2.1.trans' i4 fun q hq => ?_, fun q hq => ?_⟩
            · rw [i2 hry0, HX.out.2.1, HT.out.1]; simp only [List.append_assoc]
            · have := HX.out.2.2.1; have := HT.out.2.1; omega
            · rcases List.mem_cons.1 hq with rfl | hq
              · exact Or.inl (by simp)
              · rcases HX.out.2.2.2.2 q hq with h' | h'
                · exact Or.inl (by simp [h'])
                · exact Or.inr h'
            · rcases i5 q hq with h' | h'
              · exact HX.out.2.2.2.2 q h'
              · exact Or.inr (Nat.le_trans HX.out.2.2.2.1.size h')
          clear i1 i2 i3 i4 i5 hry0
          go_wp2_with fail
          go_roundw
          case rel =>
            obtain ⟨v2, cs2, j1, j2, j3, j4, j5⟩ := HG.out
            exact ⟨j + 1, v2, cs2, by omega, by go_num, HV.out, j1, j2, j3, j4, j5⟩
          case measure => simp [intOf]; omega
        · have hryn : ry ≠ 0 := by simpa using hry
          have HV : Hid (res = ry) := by show _ = _; rw [← HQ.out, HD.out, if_pos hryn]
          have HG : Hid (NP w0.heap.size b fm a bs env ft m v cs (Ex.mk kd nn nm (some ⟨g, o, none⟩) xc l).sz w w2 ry resC) := by
            obtain ⟨v2, cs2, i1, i2, i3, i4, i5⟩ := HP2.out
            refine ⟨v2, cs2, i1, fun e => absurd e hryn, ?_, HX.out.2.2.2.1.trans' i4 fun q hq => ?_, fun q hq => ?_⟩
            · have := HX.out.2.2.1; have := HT.out.2; have := HSZ.out.1; omega
            · rcases List.mem_cons.1 hq with rfl | hq
              · exact Or.inl (by simp)
              · rcases HX.out.2.2.2.2 q hq with h' | h'
                · exact Or.inl (by simp [h'])
                · exact Or.inr h'
            · rcases i5 q hq with h' | h'
              · exact HX.out.2.2.2.2 q h'
              · exact Or.inr (Nat.le_trans HX.out.2.2.2.1.size h')
          clear hryn
          go_wp2_with fail
          go_ret
          exact ⟨ret_int HV.out.symm, by rw [HV.out]; exact HG.out⟩
      · have hli : ¬ (j : Int) < (l.length : Int) := by omega
        have HV : Hid (res = 0) := by show _ = _; rw [← HQ.out, List.drop_eq_nil_of_le (by omega), exLZ]
        have HG : Hid (NP w0.heap.size b fm a bs env ft m v cs (Ex.mk kd nn nm xa xc l).sz w wr 0 resC) := by
          refine ⟨v', cs', HX.out.1, fun _ => ?_, ?_, HX.out.2.2.2.1, HX.out.2.2.2.2⟩
          · rw [HX.out.2.1, HCC.out, List.take_of_length_le (by omega)]
          · have := HX.out.2.2.1; have := szL_take_le l j; have := HSZ.out.1; omega
        go_wp2_with fail
        go_ret
        exact ⟨ret_int HV.out.symm, by rw [HV.out]; exact HG.out⟩
  · have hrn : r0 ≠ 0 := by simpa using hr
    have HF : Hid (res = r0) := by show _ = _; rw [HZ.out, if_pos hrn]
    have HG : Hid (NP w0.heap.size b fm a bs env ft m v cs x.sz w w1 r0 resC) := by
      obtain ⟨v2, cs2, i1, i2, i3, i4, i5⟩ := HNP.out
      exact ⟨v2, cs2, i1, fun e => absurd e hrn, by have := HSZ.out.1; omega, i4, i5⟩
    clear hrn
    go_wp2_with fail
    go_ret
    exact ⟨ret_int HF.out.symm, by rw [HF.out]; exact HG.out⟩
theorem nexpr_k (w0 : World) (b fm : Nat) (a : Option Addr) (bs : List (Nat × Nat)) (env : Env) (ft : List (List UInt8 × Int)) (k : Nat) :
    ∀ (x : Ex) (m : Int) (v : Value) (cs : List Int) (w : World), x.sz ≤ k → x.In w0 → Below w0.heap.size w0 w → WS w0.heap.size w b fm a bs env ft m v cs → cs.length + x.sz ≤ 1000000 → Calls Tryz.prog 73 #[.pointer (some ⟨b, 0, none⟩), x.val] w fun e w' => e = .returned (.int .i64 (exZ env ft x)) ∧ NP w0.heap.size b fm a bs env ft m v cs x.sz w w' (exZ env ft x) (exC ft x) := by
  induction k with
  | zero => intro x m v cs w hk; have := x.sz_args; omega
  | succ k ih => exact fun x m v cs w hk hin hB hw hl => nexpr_step w0 b fm a bs env ft k ih x m v cs w hk hin hB hw hl
end Go.Proofs.YtkkcgkpbbngloaaGreatDoor

/- The first number that is not 0; what the walker's looks at statements come to. -/
namespace Go.Proofs.YtkkcgkpbbngloaaGreatDoor
open Go.RowKit Go.Sort

def orF : List Int → Int
  | [] => 0
  | x :: r => if x ≠ 0 then x else orF r
theorem orF_drop {l : List Int} {j : Nat} (h : j < l.length) : orF (l.drop j) = if l[j] ≠ 0 then l[j] else orF (l.drop (j + 1)) := by
  rw [List.drop_eq_getElem_cons h, orF]
set_option maxRecDepth 100000 in
set_option maxHeartbeats 1000000 in
theorem or_any (l : List Int) (g cap : Nat) (w : World) (hl : l.length ≤ 1000) (hc : ∀ j (h : j < l.length), w.cell? ⟨g, j, none⟩ = some (.int .i64 l[j])) :
    Calls Tryz.prog 72 #[.slice (some ⟨g, 0, none⟩) l.length cap] w fun e w' => e = .returned (.int .i64 (orF l)) ∧ w' = w := by
  have HCL : Hid (∀ j (h : j < l.length), w.cell? ⟨g, j, none⟩ = some (.int .i64 l[j])) := hc
  clear hc
  go_enter Tryz.func72, Tryz.ntmps72
  go_wp2_with fail
  go_loopw [8] (fun t8 wr => ∃ (j : Nat), j ≤ l.length ∧ t8 = .int .i64 j ∧ orF (l.drop j) = orF l ∧ wr = w) (fun t8 _ => l.length - (intOf t8).toNat)
  case atStart => exact ⟨0, Nat.zero_le _, rfl, rfl, rfl⟩
  case round =>
    obtain ⟨j, hj, rfl, hcnt, hwr⟩ := hrel
    obtain rfl := hwr.symm
    have HC : Hid (orF (l.drop j) = orF l) := hcnt
    clear hcnt
    by_cases hlt : j < l.length
    · have hcell := HCL.out j hlt
      have hli : (j : Int) < (l.length : Int) := by omega
      have HD : Hid (orF (l.drop j) = if l[j] ≠ 0 then l[j] else orF (l.drop (j + 1))) := orF_drop hlt
      generalize l[j] = z at *
      cases hz : (z != 0)
      · have HV : Hid (orF (l.drop (j + 1)) = orF l) := by show _ = _; rw [← HC.out, HD.out, if_neg (by simpa using hz)]
        go_wp2_with fail
        go_roundw
        case rel => exact ⟨j + 1, by omega, by go_num, HV.out, trivial⟩
        case measure => simp [intOf]; omega
      · have HV : Hid (orF l = z) := by show _ = _; rw [← HC.out, HD.out, if_pos (by simpa using hz)]
        go_wp2_with fail
        go_ret
        exact ⟨ret_int HV.out.symm, rfl⟩
    · have hli : ¬ (j : Int) < (l.length : Int) := by omega
      have HV : Hid (orF l = 0) := by show _ = _; rw [← HC.out, List.drop_eq_nil_of_le (by omega)]; rfl
      go_wp2_with fail
      go_ret
      exact ⟨ret_int HV.out.symm, rfl⟩

/-- What a look at statements comes to: what is wrong, the statement's number, what is known then, and whom was called. -/
structure SR where
  e : Int
  m : Int
  env : Env
  c : List Int
mutual
def stS (ft : List (List UInt8 × Int)) : St → Env → Int → SR
  | .mk k s _ a b _ _ l _ _ els _ _ cs, env, m =>
    if k = 1 then ⟨orF [exZ env ft a, dcZ env s.data.toList], m, dcEnv env s.data.toList 1, exC ft a⟩
    else if k = 2 then ⟨dcZ env s.data.toList, m, dcEnv env s.data.toList 2, []⟩
    else if k = 3 then ⟨orF [wrZ (envAt env s.data.toList), exZ env ft a], m, env, exC ft a⟩
    else if k = 4 then ⟨orF [ixZ (envAt env s.data.toList), exZ env ft a, exZ env ft b], m, env, exC ft a ++ exC ft b⟩
    else if k = 5 ∨ k = 6 then
      (if exZ env ft a ≠ 0 then ⟨exZ env ft a, m, env, []⟩
       else if (lsS ft l ((lvZ env == 0, []) :: env) m).e ≠ 0 then ⟨(lsS ft l ((lvZ env == 0, []) :: env) m).e, (lsS ft l ((lvZ env == 0, []) :: env) m).m, env, []⟩
       else if (csS ft cs env (lsS ft l ((lvZ env == 0, []) :: env) m).m).e ≠ 0 then ⟨(csS ft cs env (lsS ft l ((lvZ env == 0, []) :: env) m).m).e, (csS ft cs env (lsS ft l ((lvZ env == 0, []) :: env) m).m).m, env, []⟩
       else ⟨(lsS ft els ((lvZ env == 0, []) :: env) (csS ft cs env (lsS ft l ((lvZ env == 0, []) :: env) m).m).m).e, (lsS ft els ((lvZ env == 0, []) :: env) (csS ft cs env (lsS ft l ((lvZ env == 0, []) :: env) m).m).m).m, env,
          exC ft a ++ (lsS ft l ((lvZ env == 0, []) :: env) m).c ++ (csS ft cs env (lsS ft l ((lvZ env == 0, []) :: env) m).m).c ++ (lsS ft els ((lvZ env == 0, []) :: env) (csS ft cs env (lsS ft l ((lvZ env == 0, []) :: env) m).m).m).c⟩)
    else if k = 7 then
      (if orF [exZ env ft a, exZ env ft b, dcZ ((true, []) :: env) s.data.toList] ≠ 0 then ⟨orF [exZ env ft a, exZ env ft b, dcZ ((true, []) :: env) s.data.toList], m, env, []⟩
       else ⟨(lsS ft l (dcEnv ((true, []) :: env) s.data.toList 3) m).e, (lsS ft l (dcEnv ((true, []) :: env) s.data.toList 3) m).m, env, exC ft a ++ exC ft b ++ (lsS ft l (dcEnv ((true, []) :: env) s.data.toList 3) m).c⟩)
    else if k = 8 then ⟨lvZ env, m, env, []⟩
    else ⟨exZ env ft a, m, env, exC ft a⟩
def lsS (ft : List (List UInt8 × Int)) : List St → Env → Int → SR
  | [], env, m => ⟨0, m, env, []⟩
  | s :: r, env, m => if (stS ft s env (m + 1)).e ≠ 0 then stS ft s env (m + 1)
    else ⟨(lsS ft r (stS ft s env (m + 1)).env (stS ft s env (m + 1)).m).e, (lsS ft r (stS ft s env (m + 1)).env (stS ft s env (m + 1)).m).m, (lsS ft r (stS ft s env (m + 1)).env (stS ft s env (m + 1)).m).env, (stS ft s env (m + 1)).c ++ (lsS ft r (stS ft s env (m + 1)).env (stS ft s env (m + 1)).m).c⟩
def caS (ft : List (List UInt8 × Int)) : Ca → Env → Int → SR
  | .mk _ _ _ l, env, m => lsS ft l ((lvZ env == 0, []) :: env) m
def csS (ft : List (List UInt8 × Int)) : List Ca → Env → Int → SR
  | [], env, m => ⟨0, m, env, []⟩
  | c :: r, env, m => if (caS ft c env m).e ≠ 0 then ⟨(caS ft c env m).e, (caS ft c env m).m, env, []⟩
    else ⟨(csS ft r env (caS ft c env m).m).e, (csS ft r env (caS ft c env m).m).m, env, (caS ft c env m).c ++ (csS ft r env (caS ft c env m).m).c⟩
end
end Go.Proofs.YtkkcgkpbbngloaaGreatDoor
