/- checkStmt: what is wrong first with a statement, without those in its bodies. -/
import Derived.Test.YtbpemackmadhgaaDoorC3
namespace Go.Proofs.YtbpemackmadhgaaDoor
open Go.RowKit Go.Sort

theorem checkExpr_any (x : Ex) (lv : Int) (w : World) (hin : x.In w) (ht : Tabs w) (h0 : 0 ≤ lv) (h1 : lv ≤ 64) :
    Calls Tryd.prog 78 #[x.val, .int .i64 lv] w fun e w' => e = .returned (.int .i64 (chkE x lv)) ∧ Below w.heap.size w w' := checkExpr_k _ x lv w (Nat.le_refl _) hin ht h0 h1

/-- The tests on a statement's own fields, in their order. -/
def selfS (s : St) : Int :=
  if isS s.kind = false then 5
  else if (bits .andNot .i64 (usesS s) (fldS s.kind.toNat) != 0) = true then 5
  else if (bits .and .i64 (fldS s.kind.toNat) 1 != 0 && !nameZ s.name) = true then 8
  else if (decide (s.n < 0) || leastC s.cases) = true then 1
  else if (s.kind == 10 && s.a.kind != 4) = true then 5 else 0
/-- What is wrong first with a statement at a level, without those in its bodies. -/
def chkS (s : St) (lv : Int) : Int :=
  if 32 < lv then 20 else if selfS s ≠ 0 then selfS s
  else if (bits .and .i64 (fldS s.kind.toNat) 4 != 0 && chkE s.a (lv + 1) != 0) = true then chkE s.a (lv + 1)
  else if (bits .and .i64 (fldS s.kind.toNat) 8 != 0) = true then chkE s.b (lv + 1) else 0

/-- A block that holds a statement's cells. -/
def BoxS (W : World) (B : Nat) (s : St) : Prop := ∀ (i : Nat) v, s.cells[i]? = some v → W.cell? ⟨B, i, none⟩ = some v
theorem BoxS.below {n : Nat} {W W' : World} {B : Nat} {s : St} (h : BoxS W B s) (hb : Below n W W') (hB : B < n) : BoxS W' B s := fun i v hi => (hb.cell (p := ⟨B, i, none⟩) hB).trans (h i v hi)
theorem boxS_new (w : World) (s : St) : BoxS (w.alloc (.cells #[.int .i64 s.kind, .string s.name, .int .i64 s.n, .int .i64 s.a.kind, .int .i64 s.a.n, .string s.a.name, .slice s.a.a s.a.args.length s.a.cap, .int .i64 s.b.kind, .int .i64 s.b.n, .string s.b.name, .slice s.b.a s.b.args.length s.b.cap, .slice s.ba s.body.length s.bc, .slice s.ea s.els.length s.ec, .slice s.ca s.cases.length s.cc] 46)) w.heap.size s := by
  intro i v h
  rw [World.cell?_alloc_at _ _ _ _ rfl]; simpa [St.cells] using h

set_option maxRecDepth 100000 in
set_option maxHeartbeats 8000000 in
theorem checkStmt_any (s : St) (lv : Int) (w : World) (hin : s.In w) (ht : Tabs w) (h0 : 0 ≤ lv) (h1 : lv ≤ 63) :
    Calls Tryd.prog 60 #[s.val, .int .i64 lv] w fun e w' => e = .returned (.int .i64 (chkS s lv)) ∧ Below w.heap.size w w' := by
  have HI : Hid (∀ w, Calls Tryd.prog 75 #[.int .i64 s.kind] w fun e w' => e = .returned (.bool (isS s.kind)) ∧ w' = w) := fun w => isStmt_any s.kind w
  have HU : Hid (∀ w, Calls Tryd.prog 76 #[s.val] w fun e w' => e = .returned (.int .i64 (usesS s)) ∧ Below w.heap.size w w') := fun w => stmtUses_any s w
  have HN : Hid (∀ w, Calls Tryd.prog 59 #[.string s.name] w fun e w' => e = .returned (.bool (nameZ s.name)) ∧ w' = w) := fun w => name_any s.name w
  have HL : Hid (∀ w', Below w.heap.size w w' → Calls Tryd.prog 77 #[.slice s.ca s.cases.length s.cc] w' fun e w'' => e = .returned (.bool (leastC s.cases)) ∧ Below w'.heap.size w' w'') := fun w' hb => hasLeast_any s.cases s.ca s.cc w' ((St.in_iff.1 hin).2.2.2.2.2.2.2.1.below hb)
  have HA : Hid (∀ w', Below w.heap.size w w' → Calls Tryd.prog 78 #[s.a.val, .int .i64 (lv + 1)] w' fun e w'' => e = .returned (.int .i64 (chkE s.a (lv + 1))) ∧ Below w'.heap.size w' w'') := fun w' hb => checkExpr_any s.a (lv + 1) w' ((St.in_iff.1 hin).2.2.2.1.stay hb) (ht.stay hb) (by omega) (by omega)
  have HB : Hid (∀ w', Below w.heap.size w w' → Calls Tryd.prog 78 #[s.b.val, .int .i64 (lv + 1)] w' fun e w'' => e = .returned (.int .i64 (chkE s.b (lv + 1))) ∧ Below w'.heap.size w' w'') := fun w' hb => checkExpr_any s.b (lv + 1) w' ((St.in_iff.1 hin).2.2.2.2.1.stay hb) (ht.stay hb) (by omega) (by omega)
  have HT : Hid (Tabs w) := ht
  clear ht hin
  have HE : Hid (chkS s lv = if 32 < lv then 20 else if selfS s ≠ 0 then selfS s else if (bits .and .i64 (fldS s.kind.toNat) 4 != 0 && chkE s.a (lv + 1) != 0) = true then chkE s.a (lv + 1) else if (bits .and .i64 (fldS s.kind.toNat) 8 != 0) = true then chkE s.b (lv + 1) else 0) := (rfl : chkS s lv = _)
  generalize chkS s lv = res at HE ⊢
  generalize chkE s.a (lv + 1) = va at HA HE
  generalize chkE s.b (lv + 1) = vb at HB HE
  unfold St.val at HU ⊢
  unfold Ex.val at HA HB
  have hb1 := (Below.refl _ w).alloc (Nat.le_refl _) (.cells #[.int .i64 s.kind, .string s.name, .int .i64 s.n, .int .i64 s.a.kind, .int .i64 s.a.n, .string s.a.name, .slice s.a.a s.a.args.length s.a.cap, .int .i64 s.b.kind, .int .i64 s.b.n, .string s.b.name, .slice s.b.a s.b.args.length s.b.cap, .slice s.ba s.body.length s.bc, .slice s.ea s.els.length s.ec, .slice s.ca s.cases.length s.cc] 46)
  by_cases hlv : 32 < lv
  · go_enter Tryd.func60, Tryd.ntmps60
    go_wp2_with fail
    go_ret
    exact ⟨ret_int (by rw [HE.out, if_pos hlv]), hb1⟩
  · cases hk : isS s.kind
    · rw [hk] at HI
      go_enter Tryd.func60, Tryd.ntmps60
      go_wp2_with (go_at_call 75; refine (HI.out _).mono ?_; rintro e w' ⟨rfl, rfl⟩)
      go_ret
      exact ⟨ret_int (by rw [HE.out, if_neg (by omega)]; simp [selfS, hk]), hb1⟩
    · rw [hk] at HI
      obtain ⟨kn, hkn⟩ : ∃ kn : Nat, s.kind = kn := ⟨s.kind.toNat, by simp [isS] at hk; omega⟩
      have hkl : kn < 11 := by simp [isS] at hk; omega
      have HSE : Hid (selfS s = if (bits .andNot .i64 (usesS s) (fldS kn) != 0) = true then 5 else if (bits .and .i64 (fldS kn) 1 != 0 && !nameZ s.name) = true then 8 else if (decide (s.n < 0) || leastC s.cases) = true then 1 else if ((kn : Int) == 10 && s.a.kind != 4) = true then 5 else 0) := by
        show _ = _; unfold selfS; simp only [hk, Bool.true_eq_false, if_false]; rw [hkn]; simp only [Int.toNat_natCast]
      have HE2 : Hid (res = if selfS s ≠ 0 then selfS s else if (bits .and .i64 (fldS kn) 4 != 0 && va != 0) = true then va else if (bits .and .i64 (fldS kn) 8 != 0) = true then vb else 0) := by
        show _ = _; rw [HE.out, if_neg (by omega), hkn]; rfl
      have t0 := HT.out.1 kn hkl
      have h1w : 0 < w.heap.size := lt_of_cell t0
      have BX0 : Hid (BoxS _ w.heap.size s) := boxS_new w s
      rw [hkn] at HI HU BX0 hb1 ⊢
      clear HE hk
      generalize selfS s = ss at HSE HE2
      generalize usesS s = us at HU HSE
      generalize fldS kn = F at t0 HSE HE2
      go_enter Tryd.func60, Tryd.ntmps60
      go_wp2_with (go_at_call 75; refine (HI.out _).mono ?_; rintro e w' ⟨rfl, rfl⟩)
      refine (HU.out _).mono ?_
      rintro e w1 ⟨rfl, hbu⟩
      have BX : Hid (BoxS w1 w.heap.size s) := BX0.out.below hbu (by simp)
      have hb2 : Below w.heap.size w w1 := hb1.trans (hbu.mono (by simp))
      have hs2 : w.heap.size < w1.heap.size := by have := hbu.size; simp at this; omega
      clear BX0 hbu HU HI t0 HT hb1
      cases e1 : (bits .andNot .i64 us F != 0)
      · skip
        have c1 := BX.out 1 _ rfl
        have c2 := BX.out 2 _ rfl
        have c13 := BX.out 13 _ rfl
        cases e2 : (bits .and .i64 F 1 != 0)
        · skip
          by_cases e4 : s.n < 0
          · have e4' : decide (s.n < 0) = true := by simpa using e4
            have HF : Hid (res = 1) := (by rw [HE2.out, show ss = 1 from (by rw [HSE.out, e1, e2, e4']; rfl)]; rfl : res = 1)
            go_wp2_with (go_at_call 59; refine (HN.out _).mono ?_; rintro e w' ⟨rfl, rfl⟩)
            go_ret
            exact ⟨ret_int HF.out.symm, hb2⟩
          · have e4' : decide (s.n < 0) = false := by simpa using e4
            go_wp2_with (go_at_call 59; refine (HN.out _).mono ?_; rintro e w' ⟨rfl, rfl⟩)
            refine (HL.out _ hb2).mono ?_
            rintro e w2 ⟨rfl, hbl⟩
            have BY : Hid (BoxS w2 w.heap.size s) := BX.out.below hbl hs2
            have hb3 : Below w.heap.size w w2 := hb2.trans (hbl.mono (by omega))
            have hs3 : w.heap.size < w2.heap.size := by have := hbl.size; omega
            clear c1 c2 c13 BX hbl hb2 hs2
            have c0 : w2.cell? ⟨w.heap.size, 0, none⟩ = some (.int .i64 kn) := by rw [← hkn]; exact BY.out 0 _ rfl
            have c3 := BY.out 3 _ rfl
            have c4 := BY.out 4 _ rfl
            have c5 := BY.out 5 _ rfl
            have c6 := BY.out 6 _ rfl
            cases e5 : leastC s.cases
            · skip
              cases e6 : ((kn : Int) == 10)
              · skip
                have HG : Hid (res = if (bits .and .i64 F 4 != 0 && va != 0) = true then va else if (bits .and .i64 F 8 != 0) = true then vb else 0) := (by rw [HE2.out, show ss = 0 from (by rw [HSE.out, e1, e2, e4', e5, e6]; rfl)]; rfl : res = _)
                clear HSE HE2
                cases e8 : (bits .and .i64 F 4 != 0)
                · skip
                  have c7 := BY.out 7 _ rfl
                  have c8 := BY.out 8 _ rfl
                  have c9 := BY.out 9 _ rfl
                  have c10 := BY.out 10 _ rfl
                  cases e9 : (bits .and .i64 F 8 != 0)
                  · go_wp2_with fail
                    go_ret
                    exact ⟨ret_int (by rw [HG.out, e8, e9]; rfl), hb3⟩
                  · go_wp2_with fail
                    refine (HB.out _ hb3).mono ?_
                    rintro e w3 ⟨rfl, hbx⟩
                    go_wp2_with fail
                    go_ret
                    exact ⟨ret_int (by rw [HG.out, e8, e9]; rfl), hb3.trans (hbx.mono (by omega))⟩
                · go_wp2_with fail
                  refine (HA.out _ hb3).mono ?_
                  rintro e w3 ⟨rfl, hba⟩
                  have BZ : Hid (BoxS w3 w.heap.size s) := BY.out.below hba hs3
                  have hb4 : Below w.heap.size w w3 := hb3.trans (hba.mono (by omega))
                  have hs4 : w.heap.size < w3.heap.size := by have := hba.size; omega
                  clear c0 c3 c4 c5 c6 BY
                  have c7 := BZ.out 7 _ rfl
                  have c8 := BZ.out 8 _ rfl
                  have c9 := BZ.out 9 _ rfl
                  have c10 := BZ.out 10 _ rfl
                  cases e10 : (va != 0)
                  · cases e9 : (bits .and .i64 F 8 != 0)
                    · go_wp2_with fail
                      go_ret
                      exact ⟨ret_int (by rw [HG.out, e8, e9, e10]; rfl), hb4⟩
                    · go_wp2_with fail
                      refine (HB.out _ hb4).mono ?_
                      rintro e w5 ⟨rfl, hbx⟩
                      go_wp2_with fail
                      go_ret
                      exact ⟨ret_int (by rw [HG.out, e8, e9, e10]; rfl), hb4.trans (hbx.mono (by omega))⟩
                  · go_wp2_with fail
                    go_ret
                    exact ⟨ret_int (by rw [HG.out, e8, e10]; rfl), hb4⟩
              · cases e7 : (s.a.kind != 4)
                · skip
                  have HG : Hid (res = if (bits .and .i64 F 4 != 0 && va != 0) = true then va else if (bits .and .i64 F 8 != 0) = true then vb else 0) := (by rw [HE2.out, show ss = 0 from (by rw [HSE.out, e1, e2, e4', e5, e6, e7]; rfl)]; rfl : res = _)
                  clear HSE HE2
                  cases e8 : (bits .and .i64 F 4 != 0)
                  · skip
                    have c7 := BY.out 7 _ rfl
                    have c8 := BY.out 8 _ rfl
                    have c9 := BY.out 9 _ rfl
                    have c10 := BY.out 10 _ rfl
                    cases e9 : (bits .and .i64 F 8 != 0)
                    · go_wp2_with fail
                      go_ret
                      exact ⟨ret_int (by rw [HG.out, e8, e9]; rfl), hb3⟩
                    · go_wp2_with fail
                      refine (HB.out _ hb3).mono ?_
                      rintro e w3 ⟨rfl, hbx⟩
                      go_wp2_with fail
                      go_ret
                      exact ⟨ret_int (by rw [HG.out, e8, e9]; rfl), hb3.trans (hbx.mono (by omega))⟩
                  · go_wp2_with fail
                    refine (HA.out _ hb3).mono ?_
                    rintro e w3 ⟨rfl, hba⟩
                    have BZ : Hid (BoxS w3 w.heap.size s) := BY.out.below hba hs3
                    have hb4 : Below w.heap.size w w3 := hb3.trans (hba.mono (by omega))
                    have hs4 : w.heap.size < w3.heap.size := by have := hba.size; omega
                    clear c0 c3 c4 c5 c6 BY
                    have c7 := BZ.out 7 _ rfl
                    have c8 := BZ.out 8 _ rfl
                    have c9 := BZ.out 9 _ rfl
                    have c10 := BZ.out 10 _ rfl
                    cases e10 : (va != 0)
                    · cases e9 : (bits .and .i64 F 8 != 0)
                      · go_wp2_with fail
                        go_ret
                        exact ⟨ret_int (by rw [HG.out, e8, e9, e10]; rfl), hb4⟩
                      · go_wp2_with fail
                        refine (HB.out _ hb4).mono ?_
                        rintro e w5 ⟨rfl, hbx⟩
                        go_wp2_with fail
                        go_ret
                        exact ⟨ret_int (by rw [HG.out, e8, e9, e10]; rfl), hb4.trans (hbx.mono (by omega))⟩
                    · go_wp2_with fail
                      go_ret
                      exact ⟨ret_int (by rw [HG.out, e8, e10]; rfl), hb4⟩
                · skip
                  have HF : Hid (res = 5) := (by rw [HE2.out, show ss = 5 from (by rw [HSE.out, e1, e2, e4', e5, e6, e7]; rfl)]; rfl : res = 5)
                  go_wp2_with fail
                  go_ret
                  exact ⟨ret_int HF.out.symm, hb3⟩
            · skip
              have HF : Hid (res = 1) := (by rw [HE2.out, show ss = 1 from (by rw [HSE.out, e1, e2, e4', e5]; rfl)]; rfl : res = 1)
              go_wp2_with fail
              go_ret
              exact ⟨ret_int HF.out.symm, hb3⟩
        · cases e3 : nameZ s.name
          · rw [e3] at HN
            have HF : Hid (res = 8) := (by rw [HE2.out, show ss = 8 from (by rw [HSE.out, e1, e2, e3]; rfl)]; rfl : res = 8)
            go_wp2_with (go_at_call 59; refine (HN.out _).mono ?_; rintro e w' ⟨rfl, rfl⟩)
            go_ret
            exact ⟨ret_int HF.out.symm, hb2⟩
          · rw [e3] at HN
            by_cases e4 : s.n < 0
            · have e4' : decide (s.n < 0) = true := by simpa using e4
              have HF : Hid (res = 1) := (by rw [HE2.out, show ss = 1 from (by rw [HSE.out, e1, e2, e3, e4']; rfl)]; rfl : res = 1)
              go_wp2_with (go_at_call 59; refine (HN.out _).mono ?_; rintro e w' ⟨rfl, rfl⟩)
              go_ret
              exact ⟨ret_int HF.out.symm, hb2⟩
            · have e4' : decide (s.n < 0) = false := by simpa using e4
              go_wp2_with (go_at_call 59; refine (HN.out _).mono ?_; rintro e w' ⟨rfl, rfl⟩)
              refine (HL.out _ hb2).mono ?_
              rintro e w2 ⟨rfl, hbl⟩
              have BY : Hid (BoxS w2 w.heap.size s) := BX.out.below hbl hs2
              have hb3 : Below w.heap.size w w2 := hb2.trans (hbl.mono (by omega))
              have hs3 : w.heap.size < w2.heap.size := by have := hbl.size; omega
              clear c1 c2 c13 BX hbl hb2 hs2
              have c0 : w2.cell? ⟨w.heap.size, 0, none⟩ = some (.int .i64 kn) := by rw [← hkn]; exact BY.out 0 _ rfl
              have c3 := BY.out 3 _ rfl
              have c4 := BY.out 4 _ rfl
              have c5 := BY.out 5 _ rfl
              have c6 := BY.out 6 _ rfl
              cases e5 : leastC s.cases
              · skip
                cases e6 : ((kn : Int) == 10)
                · skip
                  have HG : Hid (res = if (bits .and .i64 F 4 != 0 && va != 0) = true then va else if (bits .and .i64 F 8 != 0) = true then vb else 0) := (by rw [HE2.out, show ss = 0 from (by rw [HSE.out, e1, e2, e3, e4', e5, e6]; rfl)]; rfl : res = _)
                  clear HSE HE2
                  cases e8 : (bits .and .i64 F 4 != 0)
                  · skip
                    have c7 := BY.out 7 _ rfl
                    have c8 := BY.out 8 _ rfl
                    have c9 := BY.out 9 _ rfl
                    have c10 := BY.out 10 _ rfl
                    cases e9 : (bits .and .i64 F 8 != 0)
                    · go_wp2_with fail
                      go_ret
                      exact ⟨ret_int (by rw [HG.out, e8, e9]; rfl), hb3⟩
                    · go_wp2_with fail
                      refine (HB.out _ hb3).mono ?_
                      rintro e w3 ⟨rfl, hbx⟩
                      go_wp2_with fail
                      go_ret
                      exact ⟨ret_int (by rw [HG.out, e8, e9]; rfl), hb3.trans (hbx.mono (by omega))⟩
                  · go_wp2_with fail
                    refine (HA.out _ hb3).mono ?_
                    rintro e w3 ⟨rfl, hba⟩
                    have BZ : Hid (BoxS w3 w.heap.size s) := BY.out.below hba hs3
                    have hb4 : Below w.heap.size w w3 := hb3.trans (hba.mono (by omega))
                    have hs4 : w.heap.size < w3.heap.size := by have := hba.size; omega
                    clear c0 c3 c4 c5 c6 BY
                    have c7 := BZ.out 7 _ rfl
                    have c8 := BZ.out 8 _ rfl
                    have c9 := BZ.out 9 _ rfl
                    have c10 := BZ.out 10 _ rfl
                    cases e10 : (va != 0)
                    · cases e9 : (bits .and .i64 F 8 != 0)
                      · go_wp2_with fail
                        go_ret
                        exact ⟨ret_int (by rw [HG.out, e8, e9, e10]; rfl), hb4⟩
                      · go_wp2_with fail
                        refine (HB.out _ hb4).mono ?_
                        rintro e w5 ⟨rfl, hbx⟩
                        go_wp2_with fail
                        go_ret
                        exact ⟨ret_int (by rw [HG.out, e8, e9, e10]; rfl), hb4.trans (hbx.mono (by omega))⟩
                    · go_wp2_with fail
                      go_ret
                      exact ⟨ret_int (by rw [HG.out, e8, e10]; rfl), hb4⟩
                · cases e7 : (s.a.kind != 4)
                  · skip
                    have HG : Hid (res = if (bits .and .i64 F 4 != 0 && va != 0) = true then va else if (bits .and .i64 F 8 != 0) = true then vb else 0) := (by rw [HE2.out, show ss = 0 from (by rw [HSE.out, e1, e2, e3, e4', e5, e6, e7]; rfl)]; rfl : res = _)
                    clear HSE HE2
                    cases e8 : (bits .and .i64 F 4 != 0)
                    · skip
                      have c7 := BY.out 7 _ rfl
                      have c8 := BY.out 8 _ rfl
                      have c9 := BY.out 9 _ rfl
                      have c10 := BY.out 10 _ rfl
                      cases e9 : (bits .and .i64 F 8 != 0)
                      · go_wp2_with fail
                        go_ret
                        exact ⟨ret_int (by rw [HG.out, e8, e9]; rfl), hb3⟩
                      · go_wp2_with fail
                        refine (HB.out _ hb3).mono ?_
                        rintro e w3 ⟨rfl, hbx⟩
                        go_wp2_with fail
                        go_ret
                        exact ⟨ret_int (by rw [HG.out, e8, e9]; rfl), hb3.trans (hbx.mono (by omega))⟩
                    · go_wp2_with fail
                      refine (HA.out _ hb3).mono ?_
                      rintro e w3 ⟨rfl, hba⟩
                      have BZ : Hid (BoxS w3 w.heap.size s) := BY.out.below hba hs3
                      have hb4 : Below w.heap.size w w3 := hb3.trans (hba.mono (by omega))
                      have hs4 : w.heap.size < w3.heap.size := by have := hba.size; omega
                      clear c0 c3 c4 c5 c6 BY
                      have c7 := BZ.out 7 _ rfl
                      have c8 := BZ.out 8 _ rfl
                      have c9 := BZ.out 9 _ rfl
                      have c10 := BZ.out 10 _ rfl
                      cases e10 : (va != 0)
                      · cases e9 : (bits .and .i64 F 8 != 0)
                        · go_wp2_with fail
                          go_ret
                          exact ⟨ret_int (by rw [HG.out, e8, e9, e10]; rfl), hb4⟩
                        · go_wp2_with fail
                          refine (HB.out _ hb4).mono ?_
                          rintro e w5 ⟨rfl, hbx⟩
                          go_wp2_with fail
                          go_ret
                          exact ⟨ret_int (by rw [HG.out, e8, e9, e10]; rfl), hb4.trans (hbx.mono (by omega))⟩
                      · go_wp2_with fail
                        go_ret
                        exact ⟨ret_int (by rw [HG.out, e8, e10]; rfl), hb4⟩
                  · skip
                    have HF : Hid (res = 5) := (by rw [HE2.out, show ss = 5 from (by rw [HSE.out, e1, e2, e3, e4', e5, e6, e7]; rfl)]; rfl : res = 5)
                    go_wp2_with fail
                    go_ret
                    exact ⟨ret_int HF.out.symm, hb3⟩
              · skip
                have HF : Hid (res = 1) := (by rw [HE2.out, show ss = 1 from (by rw [HSE.out, e1, e2, e3, e4', e5]; rfl)]; rfl : res = 1)
                go_wp2_with fail
                go_ret
                exact ⟨ret_int HF.out.symm, hb3⟩
      · skip
        have HF : Hid (res = 5) := (by rw [HE2.out, show ss = 5 from (by rw [HSE.out, e1]; rfl)]; rfl : res = 5)
        go_wp2_with fail
        go_ret
        exact ⟨ret_int HF.out.symm, hb2⟩
end Go.Proofs.YtbpemackmadhgaaDoor
