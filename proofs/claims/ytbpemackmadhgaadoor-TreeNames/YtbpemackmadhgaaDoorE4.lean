/- countStmt, and with it countStmts, at any depth. -/
import Derived.Test.YtbpemackmadhgaaDoorE3
namespace Go.Proofs.YtbpemackmadhgaaDoor
open Go.RowKit

theorem cntZ_true {x : Ex} {n : Int} (h : zeroE x = true) : cntZ x n = n := by simp [cntZ, h]
theorem cntZ_false {x : Ex} {n : Int} (h : zeroE x = false) : cntZ x n = cntE x n := by simp [cntZ, h]

/-- The loop over A and B: how far it has come. -/
def abCnt (s : St) (n : Int) : Nat → Int
  | 0 => n
  | 1 => cntZ s.a n
  | _ => cntZ s.b (cntZ s.a n)

set_option maxRecDepth 100000 in
set_option maxHeartbeats 4000000 in
theorem countStmt_step (k : Nat) (h2 : ∀ (l : List St) (a : Option Addr) (c : Nat) (n : Int) (w : World), ssz l ≤ k → Have w a c l → 0 ≤ n → Calls Tryd.prog 16 #[.slice a l.length c, .int .i64 n] w fun e w' => e = .returned (.int .i64 (cntSs l n)) ∧ Below w.heap.size w w')
    (s : St) (n : Int) (w : World) (hk : s.sz ≤ k + 1) (hin : s.In w) (h0 : 0 ≤ n) (h1 : n ≤ 4096) :
    Calls Tryd.prog 28 #[s.val, .int .i64 n] w fun e w' => e = .returned (.int .i64 (cntS s n)) ∧ Below w.heap.size w w' := by
  have IH : Hid (∀ (l : List St) (a : Option Addr) (c : Nat) (n : Int) (w : World), ssz l ≤ k → Have w a c l → 0 ≤ n → Calls Tryd.prog 16 #[.slice a l.length c, .int .i64 n] w fun e w' => e = .returned (.int .i64 (cntSs l n)) ∧ Below w.heap.size w w') := h2
  have hc : s.cases.length * 32 ≤ 140737488351232 := by
    obtain ⟨_, _, _, _, _, _, _, h8, _⟩ := St.in_iff.1 hin
    have := h8.1; have := h8.2.1; omega
  have HIN : Hid (s.In w) := hin
  have HK : Hid (s.sz ≤ k + 1) := hk
  have HV : Hid (∀ w, s.In w → Calls Tryd.prog 49 #[s.val] w fun e w' => ∃ g cap, e = .returned (.slice (some ⟨g, 0, none⟩) (bods s).length cap) ∧ (∀ i b, (bods s)[i]? = some b → w'.cell? ⟨g, i, none⟩ = some b.v) ∧ Below w.heap.size w w') := fun w h => bodies_any s w h
  have HE : Hid (cntS s n = cntB (bods s) (abCnt s (n + (1 + (s.cases.length : Int))) 2)) := cntS_eq s n
  have hbl := bods_len s
  clear h2 hin hk
  unfold St.val at HV ⊢
  go_enter Tryd.func28, Tryd.ntmps28
  go_wp2_with fail
  obtain ⟨W1, hW1⟩ : ∃ W1, (w.alloc (.cells #[.int .i64 s.kind, .string s.name, .int .i64 s.n, .int .i64 s.a.kind, .int .i64 s.a.n, .string s.a.name, .slice s.a.a s.a.args.length s.a.cap, .int .i64 s.b.kind, .int .i64 s.b.n, .string s.b.name, .slice s.b.a s.b.args.length s.b.cap, .slice s.ba s.body.length s.bc, .slice s.ea s.els.length s.ec, .slice s.ca s.cases.length s.cc] 46)).alloc (.cells #[.int .i64 s.a.kind, .int .i64 s.a.n, .string s.a.name, .slice s.a.a s.a.args.length s.a.cap, .int .i64 s.b.kind, .int .i64 s.b.n, .string s.b.name, .slice s.b.a s.b.args.length s.b.cap] 39) = W1 := ⟨_, rfl⟩
  have BX : Hid (∀ (j : Nat) v, s.cells[j]? = some v → W1.cell? ⟨w.heap.size, j, none⟩ = some v) := by
    show ∀ (j : Nat) v, _; intro j v h
    rw [← hW1, World.cell?_alloc_past _ _ _ (by simp), World.cell?_alloc_at _ _ _ _ rfl]; simpa [St.cells] using h
  have BE : Hid (∀ (j : Nat) v, (s.a.cells ++ s.b.cells)[j]? = some v → W1.cell? ⟨w.heap.size + 1, j, none⟩ = some v) := by
    show ∀ (j : Nat) v, _; intro j v h
    rw [← hW1, World.cell?_alloc_at _ _ _ _ (by simp)]; simpa [Ex.cells] using h
  have hb1 : Below w.heap.size w W1 := by rw [← hW1]; exact ((Below.refl _ w).alloc (Nat.le_refl _) _).alloc (by simp) _
  have hs1 : w.heap.size + 1 + 1 ≤ W1.heap.size := by rw [← hW1]; simp
  rw [hW1]
  clear hW1
  have HN : ∃ n1, n1 = n + (1 + (s.cases.length : Int)) := ⟨_, rfl⟩
  obtain ⟨n1, hn1⟩ := HN
  rw [← hn1] at HE ⊢
  have hn1b : 0 ≤ n1 ∧ n1 ≤ 5000000000000 := by omega
  clear hn1
  go_loopw [1, 21] (fun t1 t21 wr => ∃ (j : Nat), j ≤ 2 ∧ t1 = .int .i64 (abCnt s n1 j) ∧ t21 = .int .i64 j ∧ Below W1.heap.size W1 wr) (fun _ t21 _ => 2 - (intOf t21).toNat)
  case atStart => exact ⟨0, by omega, rfl, rfl, Below.refl _ _⟩
  case round =>
    obtain ⟨j, hj, rfl, rfl, hb⟩ := hrel
    have hws := hb.size
    have hE : ∀ (i : Nat) v, (s.a.cells ++ s.b.cells)[i]? = some v → wr.cell? ⟨w.heap.size + 1, i, none⟩ = some v := fun i v h => (hb.cell (p := ⟨w.heap.size + 1, i, none⟩) (by show w.heap.size + 1 < _; omega)).trans (BE.out i v h)
    obtain ⟨_, _, _, ha, hbb, _⟩ := St.in_iff.1 HIN.out
    have HA : Hid (s.a.In wr) := (ha.stay hb1).stay hb
    have HB : Hid (s.b.In wr) := (hbb.stay hb1).stay hb
    clear ha hbb
    have g1 := cntZ_ge s.a n1
    have g2 := cntZ_ge s.b (cntZ s.a n1)
    have g3 := cntZ_le s.a n1
    have g4 := cntZ_le s.b (cntZ s.a n1)
    by_cases hj0 : j = 0
    · subst hj0
      have c0 := hE 0 _ rfl
      have c1 := hE 1 _ rfl
      have c2 := hE 2 _ rfl
      have c3 := hE 3 _ rfl
      clear hE
      have HZ : Hid (∀ w, Calls Tryd.prog 47 #[s.a.val] w fun e w' => e = .returned (.bool (zeroE s.a)) ∧ Below w.heap.size w w') := fun w => zero_any s.a w
      unfold Ex.val at HZ
      simp only [abCnt]
      cases hz : zeroE s.a
      · rw [hz] at HZ
        go_wp2_with fail
        refine (HZ.out _).mono ?_
        rintro e w' ⟨rfl, hb'⟩
        have d0 := own_cell hb' (j := 0) rfl
        have d1 := own_cell hb' (j := 1) rfl
        have d2 := own_cell hb' (j := 2) rfl
        have d3 := own_cell hb' (j := 3) rfl
        go_wp2_with fail
        refine (countExpr_any s.a n1 _ ((HA.out.stay ((Below.refl _ _).alloc (Nat.le_refl _) _)).stay hb') (by omega) (by omega)).mono ?_
        rintro e w2 ⟨rfl, hb2⟩
        go_wp2_with fail
        go_roundw
        case rel => exact ⟨1, by omega, congrArg (Value.int .i64) (show _ = cntZ s.a n1 from (cntZ_false hz).symm), rfl, (hb.alloc hws _).trans ((hb'.mono (by simp; omega)).trans (hb2.mono (by have := hb'.size; simp at this; omega)))⟩
        case measure => simp [intOf]
      · rw [hz] at HZ
        go_wp2_with fail
        refine (HZ.out _).mono ?_
        rintro e w' ⟨rfl, hb'⟩
        go_wp2_with fail
        go_roundw
        case rel => exact ⟨1, by omega, congrArg (Value.int .i64) (show _ = cntZ s.a n1 from (cntZ_true hz).symm), rfl, (hb.alloc hws _).trans (hb'.mono (by simp; omega))⟩
        case measure => simp [intOf]
    · by_cases hj1 : j = 1
      · subst hj1
        have c0 := hE 4 _ rfl
        have c1 := hE 5 _ rfl
        have c2 := hE 6 _ rfl
        have c3 := hE 7 _ rfl
        clear hE
        have HZ : Hid (∀ w, Calls Tryd.prog 47 #[s.b.val] w fun e w' => e = .returned (.bool (zeroE s.b)) ∧ Below w.heap.size w w') := fun w => zero_any s.b w
        unfold Ex.val at HZ
        simp only [abCnt]
        cases hz : zeroE s.b
        · rw [hz] at HZ
          go_wp2_with fail
          refine (HZ.out _).mono ?_
          rintro e w' ⟨rfl, hb'⟩
          have d0 := own_cell hb' (j := 0) rfl
          have d1 := own_cell hb' (j := 1) rfl
          have d2 := own_cell hb' (j := 2) rfl
          have d3 := own_cell hb' (j := 3) rfl
          go_wp2_with fail
          refine (countExpr_any s.b (cntZ s.a n1) _ ((HB.out.stay ((Below.refl _ _).alloc (Nat.le_refl _) _)).stay hb') (by omega) (by omega)).mono ?_
          rintro e w2 ⟨rfl, hb2⟩
          go_wp2_with fail
          go_roundw
          case rel => exact ⟨2, by omega, congrArg (Value.int .i64) (show _ = cntZ s.b (cntZ s.a n1) from (cntZ_false hz).symm), rfl, (hb.alloc hws _).trans ((hb'.mono (by simp; omega)).trans (hb2.mono (by have := hb'.size; simp at this; omega)))⟩
          case measure => simp [intOf]
        · rw [hz] at HZ
          go_wp2_with fail
          refine (HZ.out _).mono ?_
          rintro e w' ⟨rfl, hb'⟩
          go_wp2_with fail
          go_roundw
          case rel => exact ⟨2, by omega, congrArg (Value.int .i64) (show _ = cntZ s.b (cntZ s.a n1) from (cntZ_true hz).symm), rfl, (hb.alloc hws _).trans (hb'.mono (by simp; omega))⟩
          case measure => simp [intOf]
      · obtain rfl : j = 2 := by omega
        clear hE
        have hX : ∀ (i : Nat) v, s.cells[i]? = some v → wr.cell? ⟨w.heap.size, i, none⟩ = some v := fun i v h => (hb.cell (p := ⟨w.heap.size, i, none⟩) (by show w.heap.size < _; omega)).trans (BX.out i v h)
        have c0 := hX 0 _ rfl
        have c1 := hX 1 _ rfl
        have c2 := hX 2 _ rfl
        have c3 := hX 3 _ rfl
        have c4 := hX 4 _ rfl
        have c5 := hX 5 _ rfl
        have c6 := hX 6 _ rfl
        have c7 := hX 7 _ rfl
        have c8 := hX 8 _ rfl
        have c9 := hX 9 _ rfl
        have c10 := hX 10 _ rfl
        have c11 := hX 11 _ rfl
        have c12 := hX 12 _ rfl
        have c13 := hX 13 _ rfl
        clear hX
        have hn2 : 0 ≤ abCnt s n1 2 ∧ abCnt s n1 2 ≤ 8796093022208 := by simp only [abCnt]; omega
        clear g1 g2 g3 g4
        generalize abCnt s n1 2 = n2 at hn2 HE ⊢
        go_wp2_with fail
        refine (HV.out _ ((HIN.out.stay hb1).stay hb)).mono ?_
        rintro e w' ⟨g, cap, rfl, hcell, hb'⟩
        have HCL : Hid (∀ i b, (bods s)[i]? = some b → w'.cell? ⟨g, i, none⟩ = some b.v) := hcell
        have HIN' : Hid (s.In w') := ((HIN.out.stay hb1).stay hb).stay hb'
        have hb3 : Below w.heap.size w w' := hb1.trans ((hb.mono (by omega)).trans (hb'.mono (by omega)))
        clear hcell c0 c1 c2 c3 c4 c5 c6 c7 c8 c9 c10 c11 c12 c13
        go_wp2_with fail
        go_loopw [1, 35] (fun t1 t35 wq => ∃ (j : Nat) (m : Int), j ≤ s.cases.length + 2 ∧ t1 = .int .i64 m ∧ t35 = .int .i64 j ∧ 0 ≤ m ∧ m ≤ 8796093022208 ∧ cntB ((bods s).drop j) m = cntS s n ∧ Below w'.heap.size w' wq) (fun _ t35 _ => s.cases.length + 2 - (intOf t35).toNat)
        case atStart => exact ⟨0, n2, by omega, rfl, rfl, hn2.1, hn2.2, HE.out.symm, Below.refl _ _⟩
        case round =>
          obtain ⟨j, m, hj, rfl, rfl, hm0, hm1, hcnt, hbq⟩ := hrel
          have HC : Hid (cntB ((bods s).drop j) m = cntS s n) := hcnt
          clear hcnt
          have hwq := hbq.size
          by_cases hlt : j < (bods s).length
          · have hmem := List.getElem_mem hlt
            have hcl := HCL.out j (bods s)[j] (List.getElem?_eq_getElem hlt)
            have hcl' := (hbq.cell (p := ⟨g, j, none⟩) (lt_of_cell hcl)).trans hcl
            have HH : Hid (Have wr (bods s)[j].a (bods s)[j].c (bods s)[j].l) := (bods_have HIN'.out hmem).stay hbq
            have HZ : Hid (ssz (bods s)[j].l ≤ k) := (by have := bods_sz hmem; have := HK.out; omega : ssz (bods s)[j].l ≤ k)
            have HD : Hid (cntB ((bods s).drop j) m = cntB ((bods s).drop (j + 1)) (cntSs (bods s)[j].l m)) := cntB_drop hlt
            have hbd := cntSs_bd HH.out.2 m
            unfold Bd.v at hcl'
            clear hcl hmem
            generalize (bods s)[j] = bd at *
            have hli : (j : Int) < (s.cases.length : Int) + 2 := by omega
            go_wp2_with fail
            refine (IH.out bd.l bd.a bd.c m _ HZ.out HH.out hm0).mono ?_
            rintro e w2 ⟨rfl, hb2⟩
            go_wp2_with fail
            go_roundw
            case rel =>
              refine ⟨j + 1, cntSs bd.l m, by omega, rfl, by go_num, by omega, by omega, ?_, hbq.trans (hb2.mono hwq)⟩
              rw [← HC.out, HD.out]
            case measure => simp [intOf]; omega
          · obtain rfl : j = s.cases.length + 2 := by omega
            go_wp2_with fail
            go_ret
            refine ⟨ret_int ?_, hb3.trans (hbq.mono hb3.size)⟩
            rw [← HC.out, List.drop_eq_nil_of_le (by omega), cntB]

theorem count_any (k : Nat) : (∀ (s : St) (n : Int) (w : World), s.sz ≤ k → s.In w → 0 ≤ n → n ≤ 4096 → Calls Tryd.prog 28 #[s.val, .int .i64 n] w fun e w' => e = .returned (.int .i64 (cntS s n)) ∧ Below w.heap.size w w') ∧
    (∀ (l : List St) (a : Option Addr) (c : Nat) (n : Int) (w : World), ssz l ≤ k → Have w a c l → 0 ≤ n → Calls Tryd.prog 16 #[.slice a l.length c, .int .i64 n] w fun e w' => e = .returned (.int .i64 (cntSs l n)) ∧ Below w.heap.size w w') := by
  induction k with
  | zero =>
    have h0 : ∀ (s : St) (n : Int) (w : World), s.sz ≤ 0 → s.In w → 0 ≤ n → n ≤ 4096 → Calls Tryd.prog 28 #[s.val, .int .i64 n] w fun e w' => e = .returned (.int .i64 (cntS s n)) ∧ Below w.heap.size w w' := fun s _ _ h => by have := s.sz_eq; omega
    exact ⟨h0, fun l a c n w hk hh hn => countStmts_step 0 h0 l a c n w hk hh hn⟩
  | succ k ih =>
    have h1 := fun s n w hk hin h0 h1 => countStmt_step k ih.2 s n w hk hin h0 h1
    exact ⟨h1, fun l a c n w hk hh hn => countStmts_step (k + 1) h1 l a c n w hk hh hn⟩
theorem countStmts_any (l : List St) (a : Option Addr) (c : Nat) (n : Int) (w : World) (hin : Have w a c l) (h0 : 0 ≤ n) : Calls Tryd.prog 16 #[.slice a l.length c, .int .i64 n] w fun e w' => e = .returned (.int .i64 (cntSs l n)) ∧ Below w.heap.size w w' :=
  (count_any _).2 l a c n w (Nat.le_refl _) hin h0
end Go.Proofs.YtbpemackmadhgaaDoor
