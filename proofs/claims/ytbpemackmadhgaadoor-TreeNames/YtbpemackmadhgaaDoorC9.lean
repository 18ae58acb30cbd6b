/- checkWhole, and tree.Check. -/
import Derived.Test.YtbpemackmadhgaaDoorC8
namespace Go.Proofs.YtbpemackmadhgaaDoor
open Go.RowKit Go.Sort

/-- What is wrong with a program's thresholds and counts. -/
def wholeZ (p : Pr) : Int :=
  if 16 < p.widen.length then 3 else if hasZ (-9223372036854775808) p.widen = true then 1 else if riseB p.widen = false then 66
  else if 32 < p.funcs.length then 3 else if 4096 < nodesZ p then 3 else 0

set_option maxRecDepth 100000 in
set_option maxHeartbeats 4000000 in
theorem checkWhole_any (p : Pr) (w : World) (hin : p.In w) : Calls Tryd.prog 26 #[p.val] w fun e w' => e = .returned (.int .i64 (wholeZ p)) ∧ Below w.heap.size w w' := by
  have hth : Thr w p.wa p.wc p.widen := ⟨hin.1, hin.2.1, hin.2.2.2.1⟩
  have HC : Hid (∀ w', Below w.heap.size w w' → Calls Tryd.prog 43 #[.slice p.wa p.widen.length p.wc, .int .i64 (-9223372036854775808)] w' fun e w'' => e = .returned (.bool (hasZ (-9223372036854775808) p.widen)) ∧ w'' = w') := fun w' hb => contains_any _ p.widen p.wa p.wc w' ⟨hth.1, hth.2.1, hth.2.2.below hb⟩
  have HR : Hid (∀ w', Below w.heap.size w w' → Calls Tryd.prog 44 #[.slice p.wa p.widen.length p.wc] w' fun e w'' => e = .returned (.bool (riseB p.widen)) ∧ Below w'.heap.size w' w'') := fun w' hb => rise_any p.widen p.wa p.wc w' ⟨hth.1, hth.2.1, hth.2.2.below hb⟩
  have HN : Hid (∀ w', Below w.heap.size w w' → Calls Tryd.prog 8 #[p.val] w' fun e w'' => e = .returned (.int .i64 (nodesZ p)) ∧ Below w'.heap.size w' w'') := fun w' hb => nodes_any p w' (hin.stay hb)
  have HE : Hid (wholeZ p = if 16 < p.widen.length then 3 else if hasZ (-9223372036854775808) p.widen = true then 1 else if riseB p.widen = false then 66 else if 32 < p.funcs.length then 3 else if 4096 < nodesZ p then 3 else 0) := (rfl : wholeZ p = _)
  generalize wholeZ p = res at HE ⊢
  generalize hasZ (-9223372036854775808) p.widen = hz at HC HE
  generalize riseB p.widen = rb at HR HE
  generalize nodesZ p = nz at HN HE
  clear hth hin
  have hb1 := (Below.refl _ w).alloc (Nat.le_refl _) (.cells #[.slice p.wa p.widen.length p.wc, .slice p.fa p.funcs.length p.fc] 26)
  unfold Pr.val at HN ⊢
  by_cases e1 : 16 < p.widen.length
  · go_enter Tryd.func26, Tryd.ntmps26
    go_wp2_with fail
    go_ret
    exact ⟨ret_int (by rw [HE.out, if_pos e1]), hb1⟩
  · go_enter Tryd.func26, Tryd.ntmps26
    go_wp2_with fail
    refine (HC.out _ hb1).mono ?_
    rintro e w1 ⟨rfl, rfl⟩
    cases hz
    · go_wp2_with fail
      refine (HR.out _ hb1).mono ?_
      rintro e w2 ⟨rfl, hbr⟩
      have c0 := own_cell hbr (j := 0) rfl
      have c1 := own_cell hbr (j := 1) rfl
      have hb2 : Below w.heap.size w w2 := hb1.trans (hbr.mono (by simp))
      cases rb
      · go_wp2_with fail
        go_ret
        exact ⟨ret_int (by rw [HE.out, if_neg (by omega)]; rfl), hb2⟩
      · by_cases e4 : 32 < p.funcs.length
        · go_wp2_with fail
          go_ret
          exact ⟨ret_int (by rw [HE.out, if_neg (by omega)]; simp [e4]), hb2⟩
        · go_wp2_with fail
          refine (HN.out _ hb2).mono ?_
          rintro e w3 ⟨rfl, hbn⟩
          have hb3 : Below w.heap.size w w3 := hb2.trans (hbn.mono hb2.size)
          by_cases e5 : 4096 < nz
          · go_wp2_with fail
            go_ret
            exact ⟨ret_int (by rw [HE.out, if_neg (by omega)]; simp; omega), hb3⟩
          · go_wp2_with fail
            go_ret
            exact ⟨ret_int (by rw [HE.out, if_neg (by omega)]; simp; omega), hb3⟩
    · go_wp2_with fail
      go_ret
      exact ⟨ret_int (by rw [HE.out, if_neg (by omega)]; rfl), hb1⟩

/-- A fault as the machine holds it. -/
abbrev fltV (e f a : Int) : Value := .agg #[.int .i64 e, .int .i64 f, .int .i64 a]
/-- Function by function. -/
def chkFs : List Fu → Int → Int × Int × Int
  | [], _ => (0, 0, 0)
  | f :: r, i => if (chkF f).1 ≠ 0 then ((chkF f).1, i, (chkF f).2) else chkFs r (i + 1)
theorem chkFs_drop {l : List Fu} {j : Nat} {i : Int} (h : j < l.length) : chkFs (l.drop j) i = if (chkF l[j]).1 ≠ 0 then ((chkF l[j]).1, i, (chkF l[j]).2) else chkFs (l.drop (j + 1)) (i + 1) := by
  rw [List.drop_eq_getElem_cons h, chkFs]
/-- What is wrong first with a program. -/
def checkZ (p : Pr) : Int × Int × Int := if wholeZ p ≠ 0 then (wholeZ p, 0, 0) else chkFs p.funcs 0

theorem csz_eq (l : List Ca) : csz l = bsz (l.map Ca.bd) + l.length := by
  induction l with
  | nil => simp [bsz, csz]
  | cons c l ih => rw [List.map_cons, bsz, csz, c.sz_eq, ih, List.length_cons]; show _ = ssz c.body + _ + _; omega
theorem sz_bods (s : St) : s.sz = bsz (bods s) + s.cases.length + 1 := by
  rw [bods, bsz, bsz_append, bsz, bsz, s.sz_eq, csz_eq]
  show _ = ssz s.body + (_ + (ssz s.els + 0)) + _ + 1
  omega
theorem cntS_sz (k : Nat) : (∀ (s : St) (n : Int), s.sz ≤ k → n ≤ cntS s n ∧ (cntS s n ≤ 4096 → n + s.sz ≤ cntS s n)) ∧ (∀ (l : List St) (n : Int), ssz l ≤ k → n ≤ cntSs l n ∧ (cntSs l n ≤ 4096 → n + ssz l ≤ cntSs l n)) := by
  have step : ∀ k, (∀ (s : St) (n : Int), s.sz ≤ k → n ≤ cntS s n ∧ (cntS s n ≤ 4096 → n + s.sz ≤ cntS s n)) → ∀ (l : List St) (n : Int), ssz l ≤ k → n ≤ cntSs l n ∧ (cntSs l n ≤ 4096 → n + ssz l ≤ cntSs l n) := by
    intro k h1 l
    induction l with
    | nil => intro n _; simp only [cntSs, ssz]; omega
    | cons x r ihr =>
      intro n hk
      rw [ssz] at hk ⊢
      rw [cntSs]
      split
      · omega
      · have a1 := h1 x n (by omega)
        have a2 := ihr (cntS x n) (by omega)
        omega
  induction k with
  | zero =>
    have h0 : ∀ (s : St) (n : Int), s.sz ≤ 0 → n ≤ cntS s n ∧ (cntS s n ≤ 4096 → n + s.sz ≤ cntS s n) := fun s n hk => by have := s.sz_eq; omega
    exact ⟨h0, step 0 h0⟩
  | succ k ih =>
    have h1 : ∀ (s : St) (n : Int), s.sz ≤ k + 1 → n ≤ cntS s n ∧ (cntS s n ≤ 4096 → n + s.sz ≤ cntS s n) := by
      intro s n hk
      have fold : ∀ (l : List Bd) (n : Int), (∀ b ∈ l, b ∈ bods s) → n ≤ cntB l n ∧ (cntB l n ≤ 4096 → n + bsz l ≤ cntB l n) := by
        intro l
        induction l with
        | nil => intro n _; simp only [cntB, bsz]; omega
        | cons b r ihr =>
          intro n hm
          rw [cntB, bsz]
          have a1 := ih.2 b.l n (by have := bods_sz (hm b (by simp)); omega)
          have a2 := ihr (cntSs b.l n) (fun y hy => hm y (by simp [hy]))
          omega
      rw [cntS_eq]
      have a1 := cntZ_ge s.a (n + (1 + (s.cases.length : Int)))
      have a2 := cntZ_ge s.b (cntZ s.a (n + (1 + (s.cases.length : Int))))
      have a5 := fold (bods s) (cntZ s.b (cntZ s.a (n + (1 + (s.cases.length : Int))))) (fun b hb => hb)
      have := sz_bods s
      omega
    exact ⟨h1, step (k + 1) h1⟩
theorem cntF_sz : ∀ (l : List Fu) (n : Int), n ≤ cntF l n ∧ (cntF l n ≤ 4096 → 0 ≤ n → ∀ f ∈ l, ssz f.body ≤ 4096)
  | [], n => ⟨Int.le_refl _, fun _ _ f hf => by cases hf⟩
  | f :: r, n => by
    have a1 := (cntS_sz _).2 f.body n (Nat.le_refl _)
    have a2 := cntF_sz r (cntSs f.body n)
    rw [cntF]
    refine ⟨by omega, fun h h0 g hg => ?_⟩
    rcases List.mem_cons.1 hg with rfl | hg
    · have := a1.2 (by omega); omega
    · exact a2.2 h (by omega) g hg
theorem whole_sz {p : Pr} (h : wholeZ p = 0) : ∀ f ∈ p.funcs, ssz f.body ≤ 4096 := by
  have hn : nodesZ p ≤ 4096 := by
    unfold wholeZ at h
    split at h
    · omega
    split at h
    · omega
    split at h
    · omega
    split at h
    · omega
    split at h
    · omega
    omega
  unfold nodesZ at hn
  exact (cntF_sz p.funcs 0).2 (by omega) (by omega)

theorem below_set3 {B b : Nat} {w w' : World} (hb : Below B w w') (h : B ≤ b) (u0 u1 u2 : Value) : Below B w (((w'.setCell ⟨b, 0, none⟩ u0).setCell ⟨b, 1, none⟩ u1).setCell ⟨b, 2, none⟩ u2) :=
  ((hb.setCell (p := ⟨b, 0, none⟩) h u0).setCell (p := ⟨b, 1, none⟩) h u1).setCell (p := ⟨b, 2, none⟩) h u2
/-- Two new blocks, and a world behind them in which they are as they were. -/
theorem two_cells {w w1 : World} {c1 c2 : Array Value} {t1 t2 : TypeId} (hb : Below ((w.alloc (.cells c1 t1)).alloc (.cells c2 t2)).heap.size ((w.alloc (.cells c1 t1)).alloc (.cells c2 t2)) w1) :
    (∀ (j : Nat) v, c1[j]? = some v → w1.cell? ⟨w.heap.size, j, none⟩ = some v) ∧ (∀ (j : Nat) v, c2[j]? = some v → w1.cell? ⟨w.heap.size + 1, j, none⟩ = some v) ∧ (∀ j : Nat, w1.frozen? ⟨w.heap.size + 1, j, none⟩ = false) := by
  refine ⟨fun j v h => ?_, fun j v h => ?_, fun j => ?_⟩
  · rw [hb.cell (p := ⟨w.heap.size, j, none⟩) (by simp; omega), World.cell?_alloc_past _ _ _ (by simp), World.cell?_alloc_at _ _ _ _ rfl]; exact h
  · rw [hb.cell (p := ⟨w.heap.size + 1, j, none⟩) (by simp), World.cell?_alloc_at _ _ _ _ (by simp)]; exact h
  · rw [hb.frozen (p := ⟨w.heap.size + 1, j, none⟩) (by simp)]
    have hn : ((w.alloc (.cells c1 t1)).alloc (.cells c2 t2)).heap[w.heap.size + 1]? = some (.cells c2 t2 (0, 0)) := by
      have := heap_alloc_new (w.alloc (.cells c1 t1)) (.cells c2 t2)
      rwa [World.size_alloc] at this
    unfold World.frozen?
    rw [hn]; simp

set_option maxRecDepth 100000 in
set_option maxHeartbeats 4000000 in
theorem check_any (p : Pr) (w : World) (hin : p.In w) (ht : Tabs w) : Calls Tryd.prog 15 #[p.val] w fun e w' => e = .returned (fltV (checkZ p).1 (checkZ p).2.1 (checkZ p).2.2) ∧ Below w.heap.size w w' := by
  have HW : Hid (∀ w', Below w.heap.size w w' → Calls Tryd.prog 26 #[p.val] w' fun e w'' => e = .returned (.int .i64 (wholeZ p)) ∧ Below w'.heap.size w' w'') := fun w' hb => checkWhole_any p w' (hin.stay hb)
  have HE : Hid (checkZ p = if wholeZ p ≠ 0 then (wholeZ p, 0, 0) else chkFs p.funcs 0) := (rfl : checkZ p = _)
  have HZ : Hid (wholeZ p = 0 → ∀ f ∈ p.funcs, ssz f.body ≤ 4096) := fun h => whole_sz h
  have HT : Hid (Tabs w) := ht
  obtain ⟨_, _, _, _, _, hl, hc, _, hrow, hsub⟩ := hin
  have HR : Hid (RowIn w p.fa 3 (List.map Fu.cells p.funcs)) := hrow
  have HS : Hid (∀ f ∈ p.funcs, f.In w) := hsub
  clear ht hrow hsub
  generalize checkZ p = res at HE ⊢
  generalize wholeZ p = wz at HW HE HZ
  have hb1 := ((Below.refl _ w).alloc (Nat.le_refl _) (.cells #[.slice p.wa p.widen.length p.wc, .slice p.fa p.funcs.length p.fc] 26)).alloc (by simp) (.cells #[.int .i64 0, .int .i64 0, .int .i64 0] 33)
  unfold Pr.val at HW ⊢
  go_enter Tryd.func15, Tryd.ntmps15
  go_wp2_with fail
  refine (HW.out _ hb1).mono ?_
  rintro e w1 ⟨rfl, hbw⟩
  obtain ⟨hX, hRs, hF⟩ := two_cells hbw
  have r0 := hRs 0 _ rfl
  have r1 := hRs 1 _ rfl
  have r2 := hRs 2 _ rfl
  have q0 := hF 0
  have q1 := hF 1
  have q2 := hF 2
  have c1 := hX 1 _ rfl
  have hb2 : Below w.heap.size w w1 := hb1.trans (hbw.mono (by simp; omega))
  have hs2 : w.heap.size + 1 + 1 ≤ w1.heap.size := by have := hbw.size; simp at this; omega
  have R0 : Hid (w1.cell? ⟨w.heap.size + 1, 0, none⟩ = some (.int .i64 0)) := r0
  have R1 : Hid (w1.cell? ⟨w.heap.size + 1, 1, none⟩ = some (.int .i64 0)) := r1
  have R2 : Hid (w1.cell? ⟨w.heap.size + 1, 2, none⟩ = some (.int .i64 0)) := r2
  have Q0 : Hid (w1.frozen? ⟨w.heap.size + 1, 0, none⟩ = false) := q0
  have Q1 : Hid (w1.frozen? ⟨w.heap.size + 1, 1, none⟩ = false) := q1
  have Q2 : Hid (w1.frozen? ⟨w.heap.size + 1, 2, none⟩ = false) := q2
  clear hX hRs hF hbw hb1
  cases e1 : (wz != 0)
  · have e1' : wz = 0 := by simpa using e1
    have HF : Hid (res = chkFs p.funcs 0) := (by rw [HE.out]; simp [e1'] : res = chkFs p.funcs 0)
    have HZ' : Hid (∀ f ∈ p.funcs, ssz f.body ≤ 4096) := HZ.out e1'
    clear HZ HE HW e1'
    go_wp2_with fail
    go_loopw [17] (fun t17 wr => ∃ (j : Nat), j ≤ p.funcs.length ∧ t17 = .int .i64 j ∧ chkFs (p.funcs.drop j) j = res ∧ Below w1.heap.size w1 wr) (fun t17 _ => p.funcs.length - (intOf t17).toNat)
    case atStart => exact ⟨0, Nat.zero_le _, rfl, HF.out.symm, Below.refl _ _⟩
    case round =>
      obtain ⟨j, hj, rfl, hcnt, hb⟩ := hrel
      have HC : Hid (chkFs (p.funcs.drop j) j = res) := hcnt
      clear hcnt
      have hws := hb.size
      have hb3 : Below w.heap.size w wr := hb2.trans (hb.mono hb2.size)
      have hlt1 : w.heap.size + 1 < w1.heap.size := by omega
      by_cases hlt : j < p.funcs.length
      · obtain ⟨b, o, hfa, c0, c1, c2⟩ := rowF_at (HR.out.below hb3) hlt
        rw [hfa]
        have hli : (j : Int) < (p.funcs.length : Int) := by omega
        have HY : Hid (p.funcs[j].In w) := HS.out p.funcs[j] (List.getElem_mem hlt)
        have HSZ : Hid (ssz p.funcs[j].body ≤ 4096) := HZ'.out p.funcs[j] (List.getElem_mem hlt)
        have HD : Hid (chkFs (p.funcs.drop j) j = if (chkF p.funcs[j]).1 ≠ 0 then ((chkF p.funcs[j]).1, (j : Int), (chkF p.funcs[j]).2) else chkFs (p.funcs.drop (j + 1)) (j + 1)) := chkFs_drop hlt
        generalize p.funcs[j] = f at *
        have hb4 := hb.alloc hws (.cells #[.string f.name, .slice f.pa f.params.length f.pc, .slice f.ba f.body.length f.bc] 48)
        have hb5 : Below w.heap.size w _ := hb2.trans (hb4.mono hb2.size)
        have hs4 := hb4.size
        clear r0 r1 r2 q0 q1 q2
        go_wp2_with fail
        refine (checkFn_any f _ (HY.out.stay hb5) (HT.out.stay hb5) (by have := HSZ.out; omega)).mono ?_
        rintro e w2 ⟨rfl, hbf⟩
        have hb6 : Below w1.heap.size w1 w2 := hb4.trans (hbf.mono hs4)
        have hb7 : Below w.heap.size w w2 := hb2.trans (hb6.mono hb2.size)
        generalize chkF f = pr at HD ⊢
        obtain ⟨p1, p2⟩ := pr
        simp only at HD ⊢
        have r0 := (hb6.cell (p := ⟨w.heap.size + 1, 0, none⟩) hlt1).trans R0.out
        have r1 := (hb6.cell (p := ⟨w.heap.size + 1, 1, none⟩) hlt1).trans R1.out
        have r2 := (hb6.cell (p := ⟨w.heap.size + 1, 2, none⟩) hlt1).trans R2.out
        have q0 := (hb6.frozen (p := ⟨w.heap.size + 1, 0, none⟩) hlt1).trans Q0.out
        have q1 := (hb6.frozen (p := ⟨w.heap.size + 1, 1, none⟩) hlt1).trans Q1.out
        have q2 := (hb6.frozen (p := ⟨w.heap.size + 1, 2, none⟩) hlt1).trans Q2.out
        cases ep : (p1 != 0)
        · have ep' : p1 = 0 := by simpa using ep
          go_wp2_with fail
          go_roundw
          case rel => exact ⟨j + 1, by omega, by go_num, by rw [← HC.out, HD.out, if_neg (by simpa using ep')]; rfl, hb6⟩
          case measure => simp [intOf]; omega
        · have ep' : p1 ≠ 0 := by simpa using ep
          have HG : Hid (res = (p1, (j : Int), p2)) := (by rw [← HC.out, HD.out, if_pos ep'] : res = _)
          clear HC HD
          go_wp2_with fail
          refine bodyPost_ret (v := fltV p1 j p2) (by simp [results, Tryd.results15, go_sem, r0, r1, r2]) rfl ⟨?_, below_set3 hb7 (by omega) _ _ _⟩
          rw [HG.out]
      · have hb3' : Below w.heap.size w wr := hb3
        have r0 := (hb.cell (p := ⟨w.heap.size + 1, 0, none⟩) hlt1).trans R0.out
        have r1 := (hb.cell (p := ⟨w.heap.size + 1, 1, none⟩) hlt1).trans R1.out
        have r2 := (hb.cell (p := ⟨w.heap.size + 1, 2, none⟩) hlt1).trans R2.out
        have q0 := (hb.frozen (p := ⟨w.heap.size + 1, 0, none⟩) hlt1).trans Q0.out
        have q1 := (hb.frozen (p := ⟨w.heap.size + 1, 1, none⟩) hlt1).trans Q1.out
        have q2 := (hb.frozen (p := ⟨w.heap.size + 1, 2, none⟩) hlt1).trans Q2.out
        have HG : Hid (res = (0, 0, 0)) := (by rw [← HC.out, List.drop_eq_nil_of_le (by omega), chkFs] : res = _)
        clear HC
        go_wp2_with fail
        refine bodyPost_ret (v := fltV 0 0 0) (by simp [results, Tryd.results15, go_sem, r0, r1, r2]) rfl ⟨?_, below_set3 hb3' (by omega) _ _ _⟩
        rw [HG.out]
  · have e1' : wz ≠ 0 := by simpa using e1
    have HG : Hid (res = (wz, 0, 0)) := (by rw [HE.out, if_pos e1'] : res = _)
    go_wp2_with fail
    refine bodyPost_ret (v := fltV wz 0 0) (by simp [results, Tryd.results15, go_sem, r0, r1, r2]) rfl ⟨?_, below_set3 hb2 (by omega) _ _ _⟩
    rw [HG.out]
end Go.Proofs.YtbpemackmadhgaaDoor
