/- The document's own count of statements: what it answers. -/
import Derived.Test.YtbpemackmadhgaaGreatDoorPart5
import Derived.Test.YtbpemackmadhgaaGreatDoorPart2
import Derived.Deep.CutBlock
import Derived.Test.YtbpemackmadhgaaGreatDoorPart1
import Derived.Lib.ItoaLen
import Derived.Lib.ItoaNum
namespace Go.Proofs.YtbpemackmadhgaaGreatDoor
open Go.RowKit

set_option maxRecDepth 100000 in
set_option maxHeartbeats 16000000 in
theorem rstmts_k (k : Nat) : ∀ (l : List St) (a : Option Addr) (c : Nat) (left : Int) (w : World), ssz l ≤ k → Have w a c l → -8 ≤ left → left ≤ 4611686018427387904 →
    Calls Tryz.prog 50 #[.slice a l.length c, .int .i64 left] w fun e w' => e = .returned (.int .i64 (rSs l left 0)) ∧ Below w.heap.size w w' := by
  induction k with
  | zero =>
    intro l a c left w hk hin h0 h1
    obtain rfl : l = [] := by
      cases l with
      | nil => rfl
      | cons x r => rw [ssz] at hk; have := x.sz_eq; omega
    rw [rSs]
    show Calls Tryz.prog 50 #[.slice a 0 c, .int .i64 left] w _
    go_enter Tryz.func50, Tryz.ntmps50
    go_wp2_with fail
    go_loopw [5, 6] (fun t5 t6 wr => t5 = .int .i64 0 ∧ t6 = .int .i64 0 ∧ wr = w) (fun _ _ _ => 0)
    case atStart => exact ⟨rfl, rfl, rfl⟩
    case round =>
      obtain ⟨rfl, rfl, rfl⟩ := hrel
      go_wp2_with fail
      go_ret
      exact ⟨rfl, Below.refl _ _⟩
  | succ k ih =>
    intro l a c left w hk hin h0 h1
    obtain ⟨⟨hl, hc, _, hrow⟩, hsub⟩ := hin
    have IH : Hid (∀ (l : List St) (a : Option Addr) (c : Nat) (left : Int) (w : World), ssz l ≤ k → Have w a c l → -8 ≤ left → left ≤ 4611686018427387904 → Calls Tryz.prog 50 #[.slice a l.length c, .int .i64 left] w fun e w' => e = .returned (.int .i64 (rSs l left 0)) ∧ Below w.heap.size w w') := ih
    have HS : Hid (∀ x ∈ l, x.In w) := hsub
    have HR : Hid (RowIn w a 14 (List.map St.cells l)) := hrow
    have HK : Hid (ssz l ≤ k + 1) := hk
    clear ih hsub hrow hk
    go_enter Tryz.func50, Tryz.ntmps50
    go_wp2_with fail
    go_loopw [5, 6] (fun t5 t6 wr => ∃ (j : Nat) (m : Int), j ≤ l.length ∧ t5 = .int .i64 m ∧ t6 = .int .i64 j ∧ 0 ≤ m ∧ m ≤ max 0 (left + 3) ∧ rSs (l.drop j) left m = rSs l left 0 ∧ Below w.heap.size w wr) (fun _ t6 _ => l.length - (intOf t6).toNat)
    case atStart => exact ⟨0, 0, Nat.zero_le _, rfl, rfl, by omega, by omega, by simp, Below.refl _ w⟩
    case round =>
      obtain ⟨j, m, hj, rfl, rfl, hm0, hm1, hcnt, hb⟩ := hrel
      have HC : Hid (rSs (l.drop j) left m = rSs l left 0) := hcnt
      clear hcnt
      have hws := hb.size
      by_cases hlt : j < l.length
      · have hli : (j : Int) < (l.length : Int) := by omega
        have HD : Hid (rSs (l.drop j) left m = if m ≤ left then rSs (l.drop (j + 1)) left (rS l[j] left m) else m) := rSs_drop hlt
        by_cases hm : m ≤ left
        · obtain ⟨b, o, rfl, hcell⟩ := rowS_at (HR.out.below hb) hlt
          have c0 := hcell 0 _ rfl
          have c1 := hcell 1 _ rfl
          have c2 := hcell 2 _ rfl
          have c3 := hcell 3 _ rfl
          have c4 := hcell 4 _ rfl
          have c5 := hcell 5 _ rfl
          have c6 := hcell 6 _ rfl
          have c7 := hcell 7 _ rfl
          have c8 := hcell 8 _ rfl
          have c9 := hcell 9 _ rfl
          have c10 := hcell 10 _ rfl
          have c11 := hcell 11 _ rfl
          have c12 := hcell 12 _ rfl
          have c13 := hcell 13 _ rfl
          simp only [← Nat.add_assoc, Nat.add_zero] at c0 c1 c2 c3 c4 c5 c6 c7 c8 c9 c10 c11 c12 c13
          clear hcell
          have HI : Hid (l[j].In wr) := (HS.out _ (List.getElem_mem hlt)).stay hb
          have HZ : Hid (l[j].sz ≤ k + 1) := by
            have h1 := ssz_mem (List.getElem_mem hlt)
            have h3 := HK.out
            show l[j].sz ≤ k + 1
            omega
          rw [if_pos hm] at HD
          generalize l[j] = s at *
          have HZA : Hid (∀ w, Calls Tryz.prog 77 #[s.a.val] w fun e w' => e = .returned (.bool (zeroE s.a)) ∧ Below w.heap.size w w') := fun w => rzero_any s.a w
          have HZB : Hid (∀ w, Calls Tryz.prog 77 #[s.b.val] w fun e w' => e = .returned (.bool (zeroE s.b)) ∧ Below w.heap.size w w') := fun w => rzero_any s.b w
          unfold Ex.val at HZA HZB
          cases hza : zeroE s.a
          · cases hzb : zeroE s.b
            · have EQ : Hid (rS s left m = rB s.els left (rCs s.cases left (((m + 1) + (1 + rL s.a.args (left - (m + 1) - 1) 0)) + (1 + rL s.b.args (left - ((m + 1) + (1 + rL s.a.args (left - (m + 1) - 1) 0)) - 1) 0) + rSs s.body (left - (((m + 1) + (1 + rL s.a.args (left - (m + 1) - 1) 0)) + (1 + rL s.b.args (left - ((m + 1) + (1 + rL s.a.args (left - (m + 1) - 1) 0)) - 1) 0))) 0))) := by
                show _ = _; rw [rS_eq, rZ_f hza, rZ_f hzb]; rfl
              rw [hza] at HZA
              rw [hzb] at HZB
              go_wp2_with fail
              obtain ⟨W1, hW1⟩ : ∃ W1, wr.alloc (.cells #[.int .i64 s.kind, .string s.name, .int .i64 s.n, .int .i64 s.a.kind, .int .i64 s.a.n, .string s.a.name, .slice s.a.a s.a.args.length s.a.cap, .int .i64 s.b.kind, .int .i64 s.b.n, .string s.b.name, .slice s.b.a s.b.args.length s.b.cap, .slice s.ba s.body.length s.bc, .slice s.ea s.els.length s.ec, .slice s.ca s.cases.length s.cc] 43) = W1 := ⟨_, rfl⟩
              have BX : Hid (∀ (j : Nat) v, s.cells[j]? = some v → W1.cell? ⟨wr.heap.size, j, none⟩ = some v) := by
                show ∀ (j : Nat) v, _; intro j v h
                rw [← hW1, World.cell?_alloc_at _ _ _ _ rfl]; simpa [St.cells] using h
              have hb1 : Below w.heap.size w W1 := by rw [← hW1]; exact hb.alloc hws _
              have hbr : Below wr.heap.size wr W1 := by rw [← hW1]; exact (Below.refl _ wr).alloc (Nat.le_refl _) _
              have hs1 : wr.heap.size < W1.heap.size := by rw [← hW1]; simp
              rw [hW1]
              clear hW1 c0 c1 c2 c3 c4 c5 c6 c7 c8 c9 c10 c11 c12 c13
              have HI1 : Hid (s.In W1) := HI.out.stay hbr
              obtain ⟨Z, hZ⟩ : ∃ Z, wr.heap.size = Z := ⟨_, rfl⟩
              rw [hZ] at BX hs1 ⊢
              have CX : Hid (∀ w', Below W1.heap.size W1 w' → ∀ (j : Nat) v, s.cells[j]? = some v → w'.cell? ⟨Z, j, none⟩ = some v) := fun w' h j v e => (h.cell (p := ⟨Z, j, none⟩) hs1).trans (BX.out j v e)
              clear hbr hZ hb hws
              refine (HZA.out W1).mono ?_
              rintro e w2 ⟨rfl, hb2⟩
              have c6 := CX.out _ hb2 6 _ rfl
              go_wp2_with fail
              refine (rexprs_any s.a.args s.a.a s.a.cap (left - (m + 1) - 1) _ ((St.in_iff.1 (HI1.out.stay hb2)).2.2.2.1.have) (by omega) (by omega)).mono ?_
              have b1 := rL_bd s.a.args (left - (m + 1) - 1) 0
              generalize rL s.a.args (left - (m + 1) - 1) 0 = q1 at b1 EQ ⊢
              rintro e w3 ⟨rfl, hb3⟩
              have hb3' := hb2.trans (hb3.mono hb2.size)
              clear hb2 hb3 c6
              have c7 := CX.out _ hb3' 7 _ rfl
              have c8 := CX.out _ hb3' 8 _ rfl
              have c9 := CX.out _ hb3' 9 _ rfl
              have c10 := CX.out _ hb3' 10 _ rfl
              go_wp2_with fail
              refine (HZB.out _).mono ?_
              rintro e w4 ⟨rfl, hb4⟩
              have hb4' := hb3'.trans (hb4.mono hb3'.size)
              clear hb3' hb4 c7 c8 c9 c10
              have c10 := CX.out _ hb4' 10 _ rfl
              go_wp2_with fail
              refine (rexprs_any s.b.args s.b.a s.b.cap (left - ((m + 1) + (1 + q1)) - 1) _ ((St.in_iff.1 (HI1.out.stay hb4')).2.2.2.2.1.have) (by omega) (by omega)).mono ?_
              have b2 := rL_bd s.b.args (left - ((m + 1) + (1 + q1)) - 1) 0
              generalize rL s.b.args (left - ((m + 1) + (1 + q1)) - 1) 0 = q2 at b2 EQ ⊢
              rintro e w5 ⟨rfl, hb5⟩
              have hb5' := hb4'.trans (hb5.mono hb4'.size)
              clear hb4' hb5 c10
              have c11 := CX.out _ hb5' 11 _ rfl
              go_wp2_with fail
              refine (IH.out s.body s.ba s.bc (left - (((m + 1) + (1 + q1)) + (1 + q2))) _ (by have := s.sz_eq; have := HZ.out; omega) (St.in_iff.1 (HI1.out.stay hb5')).2.2.2.2.2.1 (by omega) (by omega)).mono ?_
              have b3 := rSs_bd s.body (left - (((m + 1) + (1 + q1)) + (1 + q2))) 0
              generalize rSs s.body (left - (((m + 1) + (1 + q1)) + (1 + q2))) 0 = q3 at b3 EQ ⊢
              rintro e w6 ⟨rfl, hb6⟩
              have hb6' := hb5'.trans (hb6.mono hb5'.size)
              clear hb5' hb6 c11
              obtain ⟨n4, hn4⟩ : ∃ n4, ((m + 1) + (1 + q1)) + (1 + q2) + q3 = n4 := ⟨_, rfl⟩
              have hn4b : 0 ≤ n4 ∧ n4 ≤ left + 3 := by omega
              rw [hn4] at EQ
              have HN4 := show Hid _ from hn4
              clear hn4
              go_wp2_with fail
              go_loopw [5, 8] (fun t5 t8 wq => ∃ (i : Nat) (p : Int), i ≤ s.cases.length ∧ t5 = .int .i64 p ∧ t8 = .int .i64 i ∧ 0 ≤ p ∧ p ≤ left + 3 ∧ rCs (s.cases.drop i) left p = rCs s.cases left n4 ∧ Below W1.heap.size W1 wq) (fun _ t8 _ => s.cases.length - (intOf t8).toNat)
              case atStart => exact ⟨0, n4, Nat.zero_le _, by have := HN4.out; go_num, rfl, hn4b.1, hn4b.2, by simp, hb6'⟩
              case round =>
                obtain ⟨i, p, hi, rfl, rfl, hp0, hp1, hpc, hbq⟩ := hrel
                have HPC : Hid (rCs (s.cases.drop i) left p = rCs s.cases left n4) := hpc
                clear hpc
                obtain ⟨hcl, hcc, _, hcr⟩ := (St.in_iff.1 (HI1.out.stay hbq)).2.2.2.2.2.2.2.1
                have HCR : Hid (RowIn wr s.ca 2 (s.cases.map Ca.cells)) := hcr
                clear hcr
                have c13 := CX.out _ hbq 13 _ rfl
                by_cases hilt : i < s.cases.length
                · have hili : (i : Int) < (s.cases.length : Int) := by omega
                  have HD2 : Hid (rCs (s.cases.drop i) left p = if p ≤ left then rCs (s.cases.drop (i + 1)) left (p + (1 + rC s.cases[i] (left - p - 1))) else p) := rCs_drop hilt
                  by_cases hpl : p ≤ left
                  · obtain ⟨b', o', hca, d0, d1⟩ := rowC_at HCR.out hilt
                    rw [hca] at c13
                    clear hca
                    rw [if_pos hpl, rC_eq] at HD2
                    have HIc : Hid (Have wr s.cases[i].ba s.cases[i].bc s.cases[i].body) := (Ca.in_iff.1 ((St.in_iff.1 (HI1.out.stay hbq)).2.2.2.2.2.2.2.2 _ (List.getElem_mem hilt))).2
                    have HZc : Hid (ssz s.cases[i].body ≤ k) := by
                      have h1 := csz_mem (List.getElem_mem hilt)
                      have h2 := (s.cases[i]).sz_eq
                      have h3 := s.sz_eq
                      have h4 := HZ.out
                      show ssz s.cases[i].body ≤ k
                      omega
                    generalize s.cases[i] = y at *
                    go_wp2_with fail
                    refine (IH.out y.body y.ba y.bc (left - p - 1) _ HZc.out HIc.out (by omega) (by omega)).mono ?_
                    have b4 := rSs_bd y.body (left - p - 1) 0
                    generalize rSs y.body (left - p - 1) 0 = q4 at b4 HD2 ⊢
                    rintro e w7 ⟨rfl, hb7⟩
                    have hb7' := hbq.trans (hb7.mono hbq.size)
                    clear hb7 c13 d0 d1
                    go_wp2_with fail
                    go_roundw
                    case rel =>
                      refine ⟨i + 1, p + (1 + q4), by omega, by go_num, by go_num, by omega, by omega, ?_, hb7'⟩
                      rw [← HPC.out, HD2.out]
                    case measure => simp [intOf]; omega
                  · rw [if_neg hpl] at HD2
                    have hpe : rCs s.cases left n4 = p := by rw [← HPC.out, HD2.out]
                    have c12 := CX.out _ hbq 12 _ rfl
                    go_wp2_with fail
                    refine (IH.out s.els s.ea s.ec (left - p) _ (by have := s.sz_eq; have := HZ.out; omega) (St.in_iff.1 (HI1.out.stay hbq)).2.2.2.2.2.2.1 (by omega) (by omega)).mono ?_
                    have b5 := rSs_bd s.els (left - p) 0
                    have EQ2 : Hid (rS s left m = p + rSs s.els (left - p) 0) := by show _ = _; rw [EQ.out, hpe]; rfl
                    generalize rSs s.els (left - p) 0 = q5 at b5 EQ2 ⊢
                    rintro e w8 ⟨rfl, hb8⟩
                    have hb8' := hb1.trans ((hbq.trans (hb8.mono hbq.size)).mono hb1.size)
                    clear hb8 c12 c13 hpe
                    go_wp2_with fail
                    go_roundw
                    case rel =>
                      refine ⟨j + 1, p + q5, by omega, by go_num, by go_num, by omega, by omega, ?_, hb8'⟩
                      rw [← HC.out, HD.out, EQ2.out]
                    case measure => simp [intOf]; omega
                · obtain rfl : i = s.cases.length := by omega
                  have hpe : rCs s.cases left n4 = p := by rw [← HPC.out, List.drop_eq_nil_of_le (Nat.le_refl _), rCs]
                  have c12 := CX.out _ hbq 12 _ rfl
                  go_wp2_with fail
                  refine (IH.out s.els s.ea s.ec (left - p) _ (by have := s.sz_eq; have := HZ.out; omega) (St.in_iff.1 (HI1.out.stay hbq)).2.2.2.2.2.2.1 (by omega) (by omega)).mono ?_
                  have b5 := rSs_bd s.els (left - p) 0
                  have EQ2 : Hid (rS s left m = p + rSs s.els (left - p) 0) := by show _ = _; rw [EQ.out, hpe]; rfl
                  generalize rSs s.els (left - p) 0 = q5 at b5 EQ2 ⊢
                  rintro e w8 ⟨rfl, hb8⟩
                  have hb8' := hb1.trans ((hbq.trans (hb8.mono hbq.size)).mono hb1.size)
                  clear hb8 c12 c13 hpe
                  go_wp2_with fail
                  go_roundw
                  case rel =>
                    refine ⟨j + 1, p + q5, by omega, by go_num, by go_num, by omega, by omega, ?_, hb8'⟩
                    rw [← HC.out, HD.out, EQ2.out]
                  case measure => simp [intOf]; omega
            · have EQ : Hid (rS s left m = rB s.els left (rCs s.cases left ((m + 1) + (1 + rL s.a.args (left - (m + 1) - 1) 0) + rSs s.body (left - ((m + 1) + (1 + rL s.a.args (left - (m + 1) - 1) 0))) 0))) := by
                show _ = _; rw [rS_eq, rZ_f hza, rZ_t hzb]; rfl
              rw [hza] at HZA
              rw [hzb] at HZB
              go_wp2_with fail
              obtain ⟨W1, hW1⟩ : ∃ W1, wr.alloc (.cells #[.int .i64 s.kind, .string s.name, .int .i64 s.n, .int .i64 s.a.kind, .int .i64 s.a.n, .string s.a.name, .slice s.a.a s.a.args.length s.a.cap, .int .i64 s.b.kind, .int .i64 s.b.n, .string s.b.name, .slice s.b.a s.b.args.length s.b.cap, .slice s.ba s.body.length s.bc, .slice s.ea s.els.length s.ec, .slice s.ca s.cases.length s.cc] 43) = W1 := ⟨_, rfl⟩
              have BX : Hid (∀ (j : Nat) v, s.cells[j]? = some v → W1.cell? ⟨wr.heap.size, j, none⟩ = some v) := by
                show ∀ (j : Nat) v, _; intro j v h
                rw [← hW1, World.cell?_alloc_at _ _ _ _ rfl]; simpa [St.cells] using h
              have hb1 : Below w.heap.size w W1 := by rw [← hW1]; exact hb.alloc hws _
              have hbr : Below wr.heap.size wr W1 := by rw [← hW1]; exact (Below.refl _ wr).alloc (Nat.le_refl _) _
              have hs1 : wr.heap.size < W1.heap.size := by rw [← hW1]; simp
              rw [hW1]
              clear hW1 c0 c1 c2 c3 c4 c5 c6 c7 c8 c9 c10 c11 c12 c13
              have HI1 : Hid (s.In W1) := HI.out.stay hbr
              obtain ⟨Z, hZ⟩ : ∃ Z, wr.heap.size = Z := ⟨_, rfl⟩
              rw [hZ] at BX hs1 ⊢
              have CX : Hid (∀ w', Below W1.heap.size W1 w' → ∀ (j : Nat) v, s.cells[j]? = some v → w'.cell? ⟨Z, j, none⟩ = some v) := fun w' h j v e => (h.cell (p := ⟨Z, j, none⟩) hs1).trans (BX.out j v e)
              clear hbr hZ hb hws
              refine (HZA.out W1).mono ?_
              rintro e w2 ⟨rfl, hb2⟩
              have c6 := CX.out _ hb2 6 _ rfl
              go_wp2_with fail
              refine (rexprs_any s.a.args s.a.a s.a.cap (left - (m + 1) - 1) _ ((St.in_iff.1 (HI1.out.stay hb2)).2.2.2.1.have) (by omega) (by omega)).mono ?_
              have b1 := rL_bd s.a.args (left - (m + 1) - 1) 0
              generalize rL s.a.args (left - (m + 1) - 1) 0 = q1 at b1 EQ ⊢
              rintro e w3 ⟨rfl, hb3⟩
              have hb3' := hb2.trans (hb3.mono hb2.size)
              clear hb2 hb3 c6
              have c7 := CX.out _ hb3' 7 _ rfl
              have c8 := CX.out _ hb3' 8 _ rfl
              have c9 := CX.out _ hb3' 9 _ rfl
              have c10 := CX.out _ hb3' 10 _ rfl
              go_wp2_with fail
              refine (HZB.out _).mono ?_
              rintro e w4 ⟨rfl, hb4⟩
              have hb4' := hb3'.trans (hb4.mono hb3'.size)
              clear hb3' hb4 c7 c8 c9 c10
              have c11 := CX.out _ hb4' 11 _ rfl
              go_wp2_with fail
              refine (IH.out s.body s.ba s.bc (left - ((m + 1) + (1 + q1))) _ (by have := s.sz_eq; have := HZ.out; omega) (St.in_iff.1 (HI1.out.stay hb4')).2.2.2.2.2.1 (by omega) (by omega)).mono ?_
              have b3 := rSs_bd s.body (left - ((m + 1) + (1 + q1))) 0
              generalize rSs s.body (left - ((m + 1) + (1 + q1))) 0 = q3 at b3 EQ ⊢
              rintro e w6 ⟨rfl, hb6⟩
              have hb6' := hb4'.trans (hb6.mono hb4'.size)
              clear hb4' hb6 c11
              obtain ⟨n4, hn4⟩ : ∃ n4, (m + 1) + (1 + q1) + q3 = n4 := ⟨_, rfl⟩
              have hn4b : 0 ≤ n4 ∧ n4 ≤ left + 3 := by omega
              rw [hn4] at EQ
              have HN4 := show Hid _ from hn4
              clear hn4
              go_wp2_with fail
              go_loopw [5, 8] (fun t5 t8 wq => ∃ (i : Nat) (p : Int), i ≤ s.cases.length ∧ t5 = .int .i64 p ∧ t8 = .int .i64 i ∧ 0 ≤ p ∧ p ≤ left + 3 ∧ rCs (s.cases.drop i) left p = rCs s.cases left n4 ∧ Below W1.heap.size W1 wq) (fun _ t8 _ => s.cases.length - (intOf t8).toNat)
              case atStart => exact ⟨0, n4, Nat.zero_le _, by have := HN4.out; go_num, rfl, hn4b.1, hn4b.2, by simp, hb6'⟩
              case round =>
                obtain ⟨i, p, hi, rfl, rfl, hp0, hp1, hpc, hbq⟩ := hrel
                have HPC : Hid (rCs (s.cases.drop i) left p = rCs s.cases left n4) := hpc
                clear hpc
                obtain ⟨hcl, hcc, _, hcr⟩ := (St.in_iff.1 (HI1.out.stay hbq)).2.2.2.2.2.2.2.1
                have HCR : Hid (RowIn wr s.ca 2 (s.cases.map Ca.cells)) := hcr
                clear hcr
                have c13 := CX.out _ hbq 13 _ rfl
                by_cases hilt : i < s.cases.length
                · have hili : (i : Int) < (s.cases.length : Int) := by omega
                  have HD2 : Hid (rCs (s.cases.drop i) left p = if p ≤ left then rCs (s.cases.drop (i + 1)) left (p + (1 + rC s.cases[i] (left - p - 1))) else p) := rCs_drop hilt
                  by_cases hpl : p ≤ left
                  · obtain ⟨b', o', hca, d0, d1⟩ := rowC_at HCR.out hilt
                    rw [hca] at c13
                    clear hca
                    rw [if_pos hpl, rC_eq] at HD2
                    have HIc : Hid (Have wr s.cases[i].ba s.cases[i].bc s.cases[i].body) := (Ca.in_iff.1 ((St.in_iff.1 (HI1.out.stay hbq)).2.2.2.2.2.2.2.2 _ (List.getElem_mem hilt))).2
                    have HZc : Hid (ssz s.cases[i].body ≤ k) := by
                      have h1 := csz_mem (List.getElem_mem hilt)
                      have h2 := (s.cases[i]).sz_eq
                      have h3 := s.sz_eq
                      have h4 := HZ.out
                      show ssz s.cases[i].body ≤ k
                      omega
                    generalize s.cases[i] = y at *
                    go_wp2_with fail
                    refine (IH.out y.body y.ba y.bc (left - p - 1) _ HZc.out HIc.out (by omega) (by omega)).mono ?_
                    have b4 := rSs_bd y.body (left - p - 1) 0
                    generalize rSs y.body (left - p - 1) 0 = q4 at b4 HD2 ⊢
                    rintro e w7 ⟨rfl, hb7⟩
                    have hb7' := hbq.trans (hb7.mono hbq.size)
                    clear hb7 c13 d0 d1
                    go_wp2_with fail
                    go_roundw
                    case rel =>
                      refine ⟨i + 1, p + (1 + q4), by omega, by go_num, by go_num, by omega, by omega, ?_, hb7'⟩
                      rw [← HPC.out, HD2.out]
                    case measure => simp [intOf]; omega
                  · rw [if_neg hpl] at HD2
                    have hpe : rCs s.cases left n4 = p := by rw [← HPC.out, HD2.out]
                    have c12 := CX.out _ hbq 12 _ rfl
                    go_wp2_with fail
                    refine (IH.out s.els s.ea s.ec (left - p) _ (by have := s.sz_eq; have := HZ.out; omega) (St.in_iff.1 (HI1.out.stay hbq)).2.2.2.2.2.2.1 (by omega) (by omega)).mono ?_
                    have b5 := rSs_bd s.els (left - p) 0
                    have EQ2 : Hid (rS s left m = p + rSs s.els (left - p) 0) := by show _ = _; rw [EQ.out, hpe]; rfl
                    generalize rSs s.els (left - p) 0 = q5 at b5 EQ2 ⊢
                    rintro e w8 ⟨rfl, hb8⟩
                    have hb8' := hb1.trans ((hbq.trans (hb8.mono hbq.size)).mono hb1.size)
                    clear hb8 c12 c13 hpe
                    go_wp2_with fail
                    go_roundw
                    case rel =>
                      refine ⟨j + 1, p + q5, by omega, by go_num, by go_num, by omega, by omega, ?_, hb8'⟩
                      rw [← HC.out, HD.out, EQ2.out]
                    case measure => simp [intOf]; omega
                · obtain rfl : i = s.cases.length := by omega
                  have hpe : rCs s.cases left n4 = p := by rw [← HPC.out, List.drop_eq_nil_of_le (Nat.le_refl _), rCs]
                  have c12 := CX.out _ hbq 12 _ rfl
                  go_wp2_with fail
                  refine (IH.out s.els s.ea s.ec (left - p) _ (by have := s.sz_eq; have := HZ.out; omega) (St.in_iff.1 (HI1.out.stay hbq)).2.2.2.2.2.2.1 (by omega) (by omega)).mono ?_
                  have b5 := rSs_bd s.els (left - p) 0
                  have EQ2 : Hid (rS s left m = p + rSs s.els (left - p) 0) := by show _ = _; rw [EQ.out, hpe]; rfl
                  generalize rSs s.els (left - p) 0 = q5 at b5 EQ2 ⊢
                  rintro e w8 ⟨rfl, hb8⟩
                  have hb8' := hb1.trans ((hbq.trans (hb8.mono hbq.size)).mono hb1.size)
                  clear hb8 c12 c13 hpe
                  go_wp2_with fail
                  go_roundw
                  case rel =>
                    refine ⟨j + 1, p + q5, by omega, by go_num, by go_num, by omega, by omega, ?_, hb8'⟩
                    rw [← HC.out, HD.out, EQ2.out]
                  case measure => simp [intOf]; omega
          · cases hzb : zeroE s.b
            · have EQ : Hid (rS s left m = rB s.els left (rCs s.cases left ((m + 1) + (1 + rL s.b.args (left - (m + 1) - 1) 0) + rSs s.body (left - ((m + 1) + (1 + rL s.b.args (left - (m + 1) - 1) 0))) 0))) := by
                show _ = _; rw [rS_eq, rZ_t hza, rZ_f hzb]; rfl
              rw [hza] at HZA
              rw [hzb] at HZB
              go_wp2_with fail
              obtain ⟨W1, hW1⟩ : ∃ W1, wr.alloc (.cells #[.int .i64 s.kind, .string s.name, .int .i64 s.n, .int .i64 s.a.kind, .int .i64 s.a.n, .string s.a.name, .slice s.a.a s.a.args.length s.a.cap, .int .i64 s.b.kind, .int .i64 s.b.n, .string s.b.name, .slice s.b.a s.b.args.length s.b.cap, .slice s.ba s.body.length s.bc, .slice s.ea s.els.length s.ec, .slice s.ca s.cases.length s.cc] 43) = W1 := ⟨_, rfl⟩
              have BX : Hid (∀ (j : Nat) v, s.cells[j]? = some v → W1.cell? ⟨wr.heap.size, j, none⟩ = some v) := by
                show ∀ (j : Nat) v, _; intro j v h
                rw [← hW1, World.cell?_alloc_at _ _ _ _ rfl]; simpa [St.cells] using h
              have hb1 : Below w.heap.size w W1 := by rw [← hW1]; exact hb.alloc hws _
              have hbr : Below wr.heap.size wr W1 := by rw [← hW1]; exact (Below.refl _ wr).alloc (Nat.le_refl _) _
              have hs1 : wr.heap.size < W1.heap.size := by rw [← hW1]; simp
              rw [hW1]
              clear hW1 c0 c1 c2 c3 c4 c5 c6 c7 c8 c9 c10 c11 c12 c13
              have HI1 : Hid (s.In W1) := HI.out.stay hbr
              obtain ⟨Z, hZ⟩ : ∃ Z, wr.heap.size = Z := ⟨_, rfl⟩
              rw [hZ] at BX hs1 ⊢
              have CX : Hid (∀ w', Below W1.heap.size W1 w' → ∀ (j : Nat) v, s.cells[j]? = some v → w'.cell? ⟨Z, j, none⟩ = some v) := fun w' h j v e => (h.cell (p := ⟨Z, j, none⟩) hs1).trans (BX.out j v e)
              clear hbr hZ hb hws
              refine (HZA.out W1).mono ?_
              rintro e w2 ⟨rfl, hb2⟩
              have c7 := CX.out _ hb2 7 _ rfl
              have c8 := CX.out _ hb2 8 _ rfl
              have c9 := CX.out _ hb2 9 _ rfl
              have c10 := CX.out _ hb2 10 _ rfl
              go_wp2_with fail
              refine (HZB.out _).mono ?_
              rintro e w4 ⟨rfl, hb4⟩
              have hb4' := hb2.trans (hb4.mono hb2.size)
              clear hb2 hb4 c7 c8 c9 c10
              have c10 := CX.out _ hb4' 10 _ rfl
              go_wp2_with fail
              refine (rexprs_any s.b.args s.b.a s.b.cap (left - (m + 1) - 1) _ ((St.in_iff.1 (HI1.out.stay hb4')).2.2.2.2.1.have) (by omega) (by omega)).mono ?_
              have b2 := rL_bd s.b.args (left - (m + 1) - 1) 0
              generalize rL s.b.args (left - (m + 1) - 1) 0 = q2 at b2 EQ ⊢
              rintro e w5 ⟨rfl, hb5⟩
              have hb5' := hb4'.trans (hb5.mono hb4'.size)
              clear hb4' hb5 c10
              have c11 := CX.out _ hb5' 11 _ rfl
              go_wp2_with fail
              refine (IH.out s.body s.ba s.bc (left - ((m + 1) + (1 + q2))) _ (by have := s.sz_eq; have := HZ.out; omega) (St.in_iff.1 (HI1.out.stay hb5')).2.2.2.2.2.1 (by omega) (by omega)).mono ?_
              have b3 := rSs_bd s.body (left - ((m + 1) + (1 + q2))) 0
              generalize rSs s.body (left - ((m + 1) + (1 + q2))) 0 = q3 at b3 EQ ⊢
              rintro e w6 ⟨rfl, hb6⟩
              have hb6' := hb5'.trans (hb6.mono hb5'.size)
              clear hb5' hb6 c11
              obtain ⟨n4, hn4⟩ : ∃ n4, (m + 1) + (1 + q2) + q3 = n4 := ⟨_, rfl⟩
              have hn4b : 0 ≤ n4 ∧ n4 ≤ left + 3 := by omega
              rw [hn4] at EQ
              have HN4 := show Hid _ from hn4
              clear hn4
              go_wp2_with fail
              go_loopw [5, 8] (fun t5 t8 wq => ∃ (i : Nat) (p : Int), i ≤ s.cases.length ∧ t5 = .int .i64 p ∧ t8 = .int .i64 i ∧ 0 ≤ p ∧ p ≤ left + 3 ∧ rCs (s.cases.drop i) left p = rCs s.cases left n4 ∧ Below W1.heap.size W1 wq) (fun _ t8 _ => s.cases.length - (intOf t8).toNat)
              case atStart => exact ⟨0, n4, Nat.zero_le _, by have := HN4.out; go_num, rfl, hn4b.1, hn4b.2, by simp, hb6'⟩
              case round =>
                obtain ⟨i, p, hi, rfl, rfl, hp0, hp1, hpc, hbq⟩ := hrel
                have HPC : Hid (rCs (s.cases.drop i) left p = rCs s.cases left n4) := hpc
                clear hpc
                obtain ⟨hcl, hcc, _, hcr⟩ := (St.in_iff.1 (HI1.out.stay hbq)).2.2.2.2.2.2.2.1
                have HCR : Hid (RowIn wr s.ca 2 (s.cases.map Ca.cells)) := hcr
                clear hcr
                have c13 := CX.out _ hbq 13 _ rfl
                by_cases hilt : i < s.cases.length
                · have hili : (i : Int) < (s.cases.length : Int) := by omega
                  have HD2 : Hid (rCs (s.cases.drop i) left p = if p ≤ left then rCs (s.cases.drop (i + 1)) left (p + (1 + rC s.cases[i] (left - p - 1))) else p) := rCs_drop hilt
                  by_cases hpl : p ≤ left
                  · obtain ⟨b', o', hca, d0, d1⟩ := rowC_at HCR.out hilt
                    rw [hca] at c13
                    clear hca
                    rw [if_pos hpl, rC_eq] at HD2
                    have HIc : Hid (Have wr s.cases[i].ba s.cases[i].bc s.cases[i].body) := (Ca.in_iff.1 ((St.in_iff.1 (HI1.out.stay hbq)).2.2.2.2.2.2.2.2 _ (List.getElem_mem hilt))).2
                    have HZc : Hid (ssz s.cases[i].body ≤ k) := by
                      have h1 := csz_mem (List.getElem_mem hilt)
                      have h2 := (s.cases[i]).sz_eq
                      have h3 := s.sz_eq
                      have h4 := HZ.out
                      show ssz s.cases[i].body ≤ k
                      omega
                    generalize s.cases[i] = y at *
                    go_wp2_with fail
                    refine (IH.out y.body y.ba y.bc (left - p - 1) _ HZc.out HIc.out (by omega) (by omega)).mono ?_
                    have b4 := rSs_bd y.body (left - p - 1) 0
                    generalize rSs y.body (left - p - 1) 0 = q4 at b4 HD2 ⊢
                    rintro e w7 ⟨rfl, hb7⟩
                    have hb7' := hbq.trans (hb7.mono hbq.size)
                    clear hb7 c13 d0 d1
                    go_wp2_with fail
                    go_roundw
                    case rel =>
                      refine ⟨i + 1, p + (1 + q4), by omega, by go_num, by go_num, by omega, by omega, ?_, hb7'⟩
                      rw [← HPC.out, HD2.out]
                    case measure => simp [intOf]; omega
                  · rw [if_neg hpl] at HD2
                    have hpe : rCs s.cases left n4 = p := by rw [← HPC.out, HD2.out]
                    have c12 := CX.out _ hbq 12 _ rfl
                    go_wp2_with fail
                    refine (IH.out s.els s.ea s.ec (left - p) _ (by have := s.sz_eq; have := HZ.out; omega) (St.in_iff.1 (HI1.out.stay hbq)).2.2.2.2.2.2.1 (by omega) (by omega)).mono ?_
                    have b5 := rSs_bd s.els (left - p) 0
                    have EQ2 : Hid (rS s left m = p + rSs s.els (left - p) 0) := by show _ = _; rw [EQ.out, hpe]; rfl
                    generalize rSs s.els (left - p) 0 = q5 at b5 EQ2 ⊢
                    rintro e w8 ⟨rfl, hb8⟩
                    have hb8' := hb1.trans ((hbq.trans (hb8.mono hbq.size)).mono hb1.size)
                    clear hb8 c12 c13 hpe
                    go_wp2_with fail
                    go_roundw
                    case rel =>
                      refine ⟨j + 1, p + q5, by omega, by go_num, by go_num, by omega, by omega, ?_, hb8'⟩
                      rw [← HC.out, HD.out, EQ2.out]
                    case measure => simp [intOf]; omega
                · obtain rfl : i = s.cases.length := by omega
                  have hpe : rCs s.cases left n4 = p := by rw [← HPC.out, List.drop_eq_nil_of_le (Nat.le_refl _), rCs]
                  have c12 := CX.out _ hbq 12 _ rfl
                  go_wp2_with fail
                  refine (IH.out s.els s.ea s.ec (left - p) _ (by have := s.sz_eq; have := HZ.out; omega) (St.in_iff.1 (HI1.out.stay hbq)).2.2.2.2.2.2.1 (by omega) (by omega)).mono ?_
                  have b5 := rSs_bd s.els (left - p) 0
                  have EQ2 : Hid (rS s left m = p + rSs s.els (left - p) 0) := by show _ = _; rw [EQ.out, hpe]; rfl
                  generalize rSs s.els (left - p) 0 = q5 at b5 EQ2 ⊢
                  rintro e w8 ⟨rfl, hb8⟩
                  have hb8' := hb1.trans ((hbq.trans (hb8.mono hbq.size)).mono hb1.size)
                  clear hb8 c12 c13 hpe
                  go_wp2_with fail
                  go_roundw
                  case rel =>
                    refine ⟨j + 1, p + q5, by omega, by go_num, by go_num, by omega, by omega, ?_, hb8'⟩
                    rw [← HC.out, HD.out, EQ2.out]
                  case measure => simp [intOf]; omega
            · have EQ : Hid (rS s left m = rB s.els left (rCs s.cases left (m + 1 + rSs s.body (left - (m + 1)) 0))) := by
                show _ = _; rw [rS_eq, rZ_t hza, rZ_t hzb]; rfl
              rw [hza] at HZA
              rw [hzb] at HZB
              go_wp2_with fail
              obtain ⟨W1, hW1⟩ : ∃ W1, wr.alloc (.cells #[.int .i64 s.kind, .string s.name, .int .i64 s.n, .int .i64 s.a.kind, .int .i64 s.a.n, .string s.a.name, .slice s.a.a s.a.args.length s.a.cap, .int .i64 s.b.kind, .int .i64 s.b.n, .string s.b.name, .slice s.b.a s.b.args.length s.b.cap, .slice s.ba s.body.length s.bc, .slice s.ea s.els.length s.ec, .slice s.ca s.cases.length s.cc] 43) = W1 := ⟨_, rfl⟩
              have BX : Hid (∀ (j : Nat) v, s.cells[j]? = some v → W1.cell? ⟨wr.heap.size, j, none⟩ = some v) := by
                show ∀ (j : Nat) v, _; intro j v h
                rw [← hW1, World.cell?_alloc_at _ _ _ _ rfl]; simpa [St.cells] using h
              have hb1 : Below w.heap.size w W1 := by rw [← hW1]; exact hb.alloc hws _
              have hbr : Below wr.heap.size wr W1 := by rw [← hW1]; exact (Below.refl _ wr).alloc (Nat.le_refl _) _
              have hs1 : wr.heap.size < W1.heap.size := by rw [← hW1]; simp
              rw [hW1]
              clear hW1 c0 c1 c2 c3 c4 c5 c6 c7 c8 c9 c10 c11 c12 c13
              have HI1 : Hid (s.In W1) := HI.out.stay hbr
              obtain ⟨Z, hZ⟩ : ∃ Z, wr.heap.size = Z := ⟨_, rfl⟩
              rw [hZ] at BX hs1 ⊢
              have CX : Hid (∀ w', Below W1.heap.size W1 w' → ∀ (j : Nat) v, s.cells[j]? = some v → w'.cell? ⟨Z, j, none⟩ = some v) := fun w' h j v e => (h.cell (p := ⟨Z, j, none⟩) hs1).trans (BX.out j v e)
              clear hbr hZ hb hws
              refine (HZA.out W1).mono ?_
              rintro e w2 ⟨rfl, hb2⟩
              have c7 := CX.out _ hb2 7 _ rfl
              have c8 := CX.out _ hb2 8 _ rfl
              have c9 := CX.out _ hb2 9 _ rfl
              have c10 := CX.out _ hb2 10 _ rfl
              go_wp2_with fail
              refine (HZB.out _).mono ?_
              rintro e w4 ⟨rfl, hb4⟩
              have hb4' := hb2.trans (hb4.mono hb2.size)
              clear hb2 hb4 c7 c8 c9 c10
              have c11 := CX.out _ hb4' 11 _ rfl
              go_wp2_with fail
              refine (IH.out s.body s.ba s.bc (left - (m + 1)) _ (by have := s.sz_eq; have := HZ.out; omega) (St.in_iff.1 (HI1.out.stay hb4')).2.2.2.2.2.1 (by omega) (by omega)).mono ?_
              have b3 := rSs_bd s.body (left - (m + 1)) 0
              generalize rSs s.body (left - (m + 1)) 0 = q3 at b3 EQ ⊢
              rintro e w6 ⟨rfl, hb6⟩
              have hb6' := hb4'.trans (hb6.mono hb4'.size)
              clear hb4' hb6 c11
              obtain ⟨n4, hn4⟩ : ∃ n4, m + 1 + q3 = n4 := ⟨_, rfl⟩
              have hn4b : 0 ≤ n4 ∧ n4 ≤ left + 3 := by omega
              rw [hn4] at EQ
              have HN4 := show Hid _ from hn4
              clear hn4
              go_wp2_with fail
              go_loopw [5, 8] (fun t5 t8 wq => ∃ (i : Nat) (p : Int), i ≤ s.cases.length ∧ t5 = .int .i64 p ∧ t8 = .int .i64 i ∧ 0 ≤ p ∧ p ≤ left + 3 ∧ rCs (s.cases.drop i) left p = rCs s.cases left n4 ∧ Below W1.heap.size W1 wq) (fun _ t8 _ => s.cases.length - (intOf t8).toNat)
              case atStart => exact ⟨0, n4, Nat.zero_le _, by have := HN4.out; go_num, rfl, hn4b.1, hn4b.2, by simp, hb6'⟩
              case round =>
                obtain ⟨i, p, hi, rfl, rfl, hp0, hp1, hpc, hbq⟩ := hrel
                have HPC : Hid (rCs (s.cases.drop i) left p = rCs s.cases left n4) := hpc
                clear hpc
                obtain ⟨hcl, hcc, _, hcr⟩ := (St.in_iff.1 (HI1.out.stay hbq)).2.2.2.2.2.2.2.1
                have HCR : Hid (RowIn wr s.ca 2 (s.cases.map Ca.cells)) := hcr
                clear hcr
                have c13 := CX.out _ hbq 13 _ rfl
                by_cases hilt : i < s.cases.length
                · have hili : (i : Int) < (s.cases.length : Int) := by omega
                  have HD2 : Hid (rCs (s.cases.drop i) left p = if p ≤ left then rCs (s.cases.drop (i + 1)) left (p + (1 + rC s.cases[i] (left - p - 1))) else p) := rCs_drop hilt
                  by_cases hpl : p ≤ left
                  · obtain ⟨b', o', hca, d0, d1⟩ := rowC_at HCR.out hilt
                    rw [hca] at c13
                    clear hca
                    rw [if_pos hpl, rC_eq] at HD2
                    have HIc : Hid (Have wr s.cases[i].ba s.cases[i].bc s.cases[i].body) := (Ca.in_iff.1 ((St.in_iff.1 (HI1.out.stay hbq)).2.2.2.2.2.2.2.2 _ (List.getElem_mem hilt))).2
                    have HZc : Hid (ssz s.cases[i].body ≤ k) := by
                      have h1 := csz_mem (List.getElem_mem hilt)
                      have h2 := (s.cases[i]).sz_eq
                      have h3 := s.sz_eq
                      have h4 := HZ.out
                      show ssz s.cases[i].body ≤ k
                      omega
                    generalize s.cases[i] = y at *
                    go_wp2_with fail
                    refine (IH.out y.body y.ba y.bc (left - p - 1) _ HZc.out HIc.out (by omega) (by omega)).mono ?_
                    have b4 := rSs_bd y.body (left - p - 1) 0
                    generalize rSs y.body (left - p - 1) 0 = q4 at b4 HD2 ⊢
                    rintro e w7 ⟨rfl, hb7⟩
                    have hb7' := hbq.trans (hb7.mono hbq.size)
                    clear hb7 c13 d0 d1
                    go_wp2_with fail
                    go_roundw
                    case rel =>
                      refine ⟨i + 1, p + (1 + q4), by omega, by go_num, by go_num, by omega, by omega, ?_, hb7'⟩
                      rw [← HPC.out, HD2.out]
                    case measure => simp [intOf]; omega
                  · rw [if_neg hpl] at HD2
                    have hpe : rCs s.cases left n4 = p := by rw [← HPC.out, HD2.out]
                    have c12 := CX.out _ hbq 12 _ rfl
                    go_wp2_with fail
                    refine (IH.out s.els s.ea s.ec (left - p) _ (by have := s.sz_eq; have := HZ.out; omega) (St.in_iff.1 (HI1.out.stay hbq)).2.2.2.2.2.2.1 (by omega) (by omega)).mono ?_
                    have b5 := rSs_bd s.els (left - p) 0
                    have EQ2 : Hid (rS s left m = p + rSs s.els (left - p) 0) := by show _ = _; rw [EQ.out, hpe]; rfl
                    generalize rSs s.els (left - p) 0 = q5 at b5 EQ2 ⊢
                    rintro e w8 ⟨rfl, hb8⟩
                    have hb8' := hb1.trans ((hbq.trans (hb8.mono hbq.size)).mono hb1.size)
                    clear hb8 c12 c13 hpe
                    go_wp2_with fail
                    go_roundw
                    case rel =>
                      refine ⟨j + 1, p + q5, by omega, by go_num, by go_num, by omega, by omega, ?_, hb8'⟩
                      rw [← HC.out, HD.out, EQ2.out]
                    case measure => simp [intOf]; omega
                · obtain rfl : i = s.cases.length := by omega
                  have hpe : rCs s.cases left n4 = p := by rw [← HPC.out, List.drop_eq_nil_of_le (Nat.le_refl _), rCs]
                  have c12 := CX.out _ hbq 12 _ rfl
                  go_wp2_with fail
                  refine (IH.out s.els s.ea s.ec (left - p) _ (by have := s.sz_eq; have := HZ.out; omega) (St.in_iff.1 (HI1.out.stay hbq)).2.2.2.2.2.2.1 (by omega) (by omega)).mono ?_
                  have b5 := rSs_bd s.els (left - p) 0
                  have EQ2 : Hid (rS s left m = p + rSs s.els (left - p) 0) := by show _ = _; rw [EQ.out, hpe]; rfl
                  generalize rSs s.els (left - p) 0 = q5 at b5 EQ2 ⊢
                  rintro e w8 ⟨rfl, hb8⟩
                  have hb8' := hb1.trans ((hbq.trans (hb8.mono hbq.size)).mono hb1.size)
                  clear hb8 c12 c13 hpe
                  go_wp2_with fail
                  go_roundw
                  case rel =>
                    refine ⟨j + 1, p + q5, by omega, by go_num, by go_num, by omega, by omega, ?_, hb8'⟩
                    rw [← HC.out, HD.out, EQ2.out]
                  case measure => simp [intOf]; omega
        · rw [if_neg hm] at HD
          go_wp2_with fail
          go_ret
          exact ⟨ret_int (by rw [← HC.out, HD.out]), hb⟩
      · obtain rfl : j = l.length := by omega
        go_wp2_with fail
        go_ret
        exact ⟨ret_int (by rw [← HC.out, List.drop_eq_nil_of_le (Nat.le_refl _), rSs]), hb⟩
theorem rstmts_any (l : List St) (a : Option Addr) (c : Nat) (left : Int) (w : World) (hin : Have w a c l) (h0 : -8 ≤ left) (h1 : left ≤ 4611686018427387904) :
    Calls Tryz.prog 50 #[.slice a l.length c, .int .i64 left] w fun e w' => e = .returned (.int .i64 (rSs l left 0)) ∧ Below w.heap.size w w' := rstmts_k _ l a c left w (Nat.le_refl _) hin h0 h1
end Go.Proofs.YtbpemackmadhgaaGreatDoor

/- The document's own count of a program's parts: what it answers. -/
namespace Go.Proofs.YtbpemackmadhgaaGreatDoor
open Go.RowKit

def rF : List Fu → Int → Int | [], n => n | f :: r, n => if n ≤ 4096 then rF r (n + rSs f.body (4096 - n) 0) else n
theorem rF_drop {l : List Fu} {j : Nat} {n : Int} (h : j < l.length) : rF (l.drop j) n = if n ≤ 4096 then rF (l.drop (j + 1)) (n + rSs l[j].body (4096 - n) 0) else n := by
  rw [List.drop_eq_getElem_cons h, rF]
/-- How many parts a program has, as the document's own answer counts them. -/
def rnodesZ (p : Pr) : Int := if 4096 < rF p.funcs 0 then 4097 else rF p.funcs 0

set_option maxRecDepth 100000 in
set_option maxHeartbeats 4000000 in
theorem rnodes_any (p : Pr) (w : World) (hin : p.In w) : Calls Tryz.prog 32 #[p.val] w fun e w' => e = .returned (.int .i64 (rnodesZ p)) ∧ Below w.heap.size w w' := by
  obtain ⟨h1, h2, h3, h4, h5, h6, h7, h8, hrow, hsub⟩ := hin
  have HR : Hid (RowIn w p.fa 3 (List.map Fu.cells p.funcs)) := hrow
  have HS : Hid (∀ f ∈ p.funcs, f.In w) := hsub
  clear hrow hsub h1 h2 h3 h4 h5 h8
  have hZ : rnodesZ p = if 4096 < rF p.funcs 0 then 4097 else rF p.funcs 0 := rfl
  have HZ := show Hid _ from hZ
  clear hZ
  generalize rnodesZ p = res at HZ ⊢
  unfold Pr.val
  obtain ⟨W1, hW1⟩ : ∃ W1, w.alloc (.cells #[.slice p.wa p.widen.length p.wc, .slice p.fa p.funcs.length p.fc] 25) = W1 := ⟨_, rfl⟩
  have HW1 := show Hid _ from hW1
  have hb1 : Below w.heap.size w W1 := by rw [← hW1]; exact (Below.refl _ w).alloc (Nat.le_refl _) _
  have CX : Hid (∀ w', Below W1.heap.size W1 w' → w'.cell? ⟨w.heap.size, 1, none⟩ = some (.slice p.fa p.funcs.length p.fc)) := fun w' h => by
    refine (h.cell (p := ⟨w.heap.size, 1, none⟩) (by rw [← hW1]; simp)).trans ?_
    rw [← hW1, World.cell?_alloc_at _ _ _ _ rfl]; rfl
  clear hW1
  go_enter Tryz.func32, Tryz.ntmps32
  go_wp2_with fail
  rw [HW1.out]
  clear HW1
  obtain ⟨Z, hZ⟩ : ∃ Z, w.heap.size = Z := ⟨_, rfl⟩
  have HW : Hid (w.heap.size = Z) := hZ
  rw [hZ] at CX ⊢
  clear hZ
  go_loopw [3, 4] (fun t3 t4 wr => ∃ (j : Nat) (m : Int), j ≤ p.funcs.length ∧ t3 = .int .i64 m ∧ t4 = .int .i64 j ∧ 0 ≤ m ∧ m ≤ 4099 ∧ rF (p.funcs.drop j) m = rF p.funcs 0 ∧ Below W1.heap.size W1 wr) (fun _ t4 _ => p.funcs.length - (intOf t4).toNat)
  case atStart => exact ⟨0, 0, Nat.zero_le _, rfl, rfl, by omega, by omega, by simp, Below.refl _ _⟩
  case round =>
    obtain ⟨j, m, hj, rfl, rfl, hm0, hm1, hcnt, hb⟩ := hrel
    have HC : Hid (rF (p.funcs.drop j) m = rF p.funcs 0) := hcnt
    clear hcnt
    have hws := hb.size
    have hbw : Below w.heap.size w wr := hb1.trans (hb.mono hb1.size)
    have c1 := CX.out _ hb
    by_cases hlt : j < p.funcs.length
    · have hli : (j : Int) < (p.funcs.length : Int) := by omega
      have HD : Hid (rF (p.funcs.drop j) m = if m ≤ 4096 then rF (p.funcs.drop (j + 1)) (m + rSs p.funcs[j].body (4096 - m) 0) else m) := rF_drop hlt
      by_cases hm : m ≤ 4096
      · obtain ⟨b, o, hfa, d0, d1, d2⟩ := rowF_at (HR.out.below hbw) hlt
        rw [hfa] at c1
        clear hfa
        have HH : Hid (Have wr p.funcs[j].ba p.funcs[j].bc p.funcs[j].body) := (HS.out p.funcs[j] (List.getElem_mem hlt)).2.2.2.2.2.2.stay hbw
        rw [if_pos hm] at HD
        have hbd := rSs_bd p.funcs[j].body (4096 - m) 0
        generalize p.funcs[j] = f at *
        go_wp2_with fail
        refine (rstmts_any f.body f.ba f.bc (4096 - m) _ HH.out (by omega) (by omega)).mono ?_
        generalize rSs f.body (4096 - m) 0 = q at hbd HD ⊢
        rintro e w' ⟨rfl, hb'⟩
        have hb2 := hb.trans (hb'.mono hws)
        clear c1 d0 d1 d2
        go_wp2_with fail
        go_roundw
        case rel =>
          refine ⟨j + 1, m + q, by omega, by go_num, by go_num, by omega, by omega, ?_, hb2⟩
          rw [← HC.out, HD.out]
        case measure => simp [intOf]; omega
      · rw [if_neg hm] at HD
        have he : res = 4097 := by rw [HZ.out, ← HC.out, HD.out, if_pos (by omega)]
        clear HZ
        subst he
        go_wp2_with fail
        go_ret
        exact ⟨rfl, hbw⟩
    · obtain rfl : j = p.funcs.length := by omega
      have he : rF p.funcs 0 = m := by rw [← HC.out, List.drop_eq_nil_of_le (Nat.le_refl _), rF]
      rw [he] at HZ
      clear he HC
      by_cases hm : m ≤ 4096
      · have he : res = m := by rw [HZ.out, if_neg (by omega)]
        clear HZ
        subst he
        go_wp2_with fail
        go_ret
        exact ⟨rfl, hbw⟩
      · have he : res = 4097 := by rw [HZ.out, if_pos (by omega)]
        clear HZ
        subst he
        go_wp2_with fail
        go_ret
        exact ⟨rfl, hbw⟩
end Go.Proofs.YtbpemackmadhgaaGreatDoor

/- Both counts are the same. -/
namespace Go.Proofs.YtbpemackmadhgaaGreatDoor
open Go.RowKit

/-- r is n and N, if that is within the limit, else past it. -/
def PP (lim n N r : Int) : Prop := n ≤ r ∧ (n + N ≤ lim → r = n + N) ∧ (lim < n + N → lim < r)
theorem PP.comp {lim n A r B s : Int} (h : PP lim n A r) (h' : PP lim r B s) (hB : 0 ≤ B) : PP lim n (A + B) s := by
  unfold PP at *; omega
theorem PP.of {lim n N N' r : Int} (h : PP lim n N r) (e : N = N') : PP lim n N' r := by subst e; exact h
theorem PP.past {lim n N : Int} (h : lim < n) (_ : 0 ≤ N) : PP lim n N n := by unfold PP; omega
theorem PP.nil (lim n : Int) : PP lim n 0 n := by unfold PP; omega
theorem PP.plus (lim n : Int) (A : Int) (h : 0 ≤ A) : PP lim n A (n + A) := by unfold PP; omega
theorem PP.under {lim n A q : Int} (h : PP (lim - n) 0 A q) : PP lim n A (n + q) := by unfold PP at *; omega
theorem PP.under1 {lim n A q : Int} (h : PP (lim - n - 1) 0 A q) : PP lim n (A + 1) (n + (1 + q)) := by unfold PP at *; omega

theorem pe (k : Nat) : (∀ (x : Ex) (n : Int), x.sz ≤ k → PP 4096 n x.sz (cntE x n)) ∧ (∀ (l : List Ex) (n : Int), szL l ≤ k → PP 4096 n (szL l) (cntL l n)) := by
  induction k with
  | zero =>
    refine ⟨fun x n hk => by have := x.sz_args; omega, fun l n hk => ?_⟩
    cases l with
    | nil => simp only [cntL, szL]; exact PP.nil _ _
    | cons x r => rw [szL] at hk; have := x.sz_args; omega
  | succ k ih =>
    have h1 : ∀ (x : Ex) (n : Int), x.sz ≤ k + 1 → PP 4096 n x.sz (cntE x n) := fun x n hk => by
      have e := x.sz_args
      rw [cntE_args]
      exact ((PP.plus 4096 n 1 (by omega)).comp (ih.2 x.args (n + 1) (by omega)) (by omega)).of (by omega)
    refine ⟨h1, fun l => ?_⟩
    induction l with
    | nil => intro n _; simp only [cntL, szL]; exact PP.nil _ _
    | cons x r ihr =>
      intro n hk
      rw [szL] at hk
      rw [cntL]
      split
      · exact PP.past (by assumption) (by omega)
      · exact ((h1 x n (by omega)).comp (ihr (cntE x n) (by omega)) (by omega)).of (by rw [szL]; omega)
theorem pe' (k : Nat) : (∀ (x : Ex) (left n : Int), x.sz ≤ k → PP left n x.sz (n + (1 + rE x (left - n - 1)))) ∧ (∀ (l : List Ex) (left n : Int), szL l ≤ k → PP left n (szL l) (rL l left n)) := by
  induction k with
  | zero =>
    refine ⟨fun x left n hk => by have := x.sz_args; omega, fun l left n hk => ?_⟩
    cases l with
    | nil => simp only [rL, szL]; exact PP.nil _ _
    | cons x r => rw [szL] at hk; have := x.sz_args; omega
  | succ k ih =>
    have h1 : ∀ (x : Ex) (left n : Int), x.sz ≤ k + 1 → PP left n x.sz (n + (1 + rE x (left - n - 1))) := fun x left n hk => by
      have e := x.sz_args
      rw [rE_args]
      exact (PP.under1 (ih.2 x.args (left - n - 1) 0 (by omega))).of (by omega)
    refine ⟨h1, fun l => ?_⟩
    induction l with
    | nil => intro left n _; simp only [rL, szL]; exact PP.nil _ _
    | cons x r ihr =>
      intro left n hk
      rw [szL] at hk
      rw [rL]
      split
      · exact ((h1 x left n (by omega)).comp (ihr left _ (by omega)) (by omega)).of (by rw [szL]; omega)
      · exact PP.past (by omega) (by omega)

def tZ (x : Ex) : Int := if zeroE x then 0 else x.sz
theorem tZ_ge (x : Ex) : 0 ≤ tZ x := by unfold tZ; split <;> omega
theorem pz (x : Ex) (n : Int) : PP 4096 n (tZ x) (cntZ x n) := by
  unfold tZ cntZ; split
  · exact PP.nil _ _
  · exact (pe _).1 x n (Nat.le_refl _)
theorem pz' (x : Ex) (left n : Int) : PP left n (tZ x) (rZ x left n) := by
  unfold tZ rZ; split
  · exact PP.nil _ _
  · rw [← rE_args]; exact (pe' _).1 x left n (Nat.le_refl _)
mutual
def tS : St → Int
  | .mk _ _ _ a b _ _ l _ _ e _ _ c => 1 + (tZ a + (tZ b + (tSs l + (tCs c + tSs e))))
def tSs : List St → Int | [] => 0 | s :: r => tS s + tSs r
def tC : Ca → Int | .mk _ _ _ l => tSs l + 1
def tCs : List Ca → Int | [] => 0 | c :: r => tC c + tCs r
end
theorem tS_eq (s : St) : tS s = 1 + (tZ s.a + (tZ s.b + (tSs s.body + (tCs s.cases + tSs s.els)))) := by cases s; simp only [tS, St.a, St.b, St.body, St.cases, St.els]
theorem tC_eq (c : Ca) : tC c = tSs c.body + 1 := by cases c; simp only [tC, Ca.body]
theorem t_ge (k : Nat) : (∀ s : St, s.sz ≤ k → 0 ≤ tS s) ∧ (∀ l : List St, ssz l ≤ k → 0 ≤ tSs l) ∧ (∀ l : List Ca, csz l ≤ k → (l.length : Int) ≤ tCs l) := by
  induction k with
  | zero =>
    refine ⟨fun s hk => by have := s.sz_eq; omega, fun l hk => ?_, fun l hk => ?_⟩
    · cases l with
      | nil => simp [tSs]
      | cons x r => rw [ssz] at hk; have := x.sz_eq; omega
    · cases l with
      | nil => simp [tCs]
      | cons x r => rw [csz] at hk; have := x.sz_eq; omega
  | succ k ih =>
    have h1 : ∀ s : St, s.sz ≤ k + 1 → 0 ≤ tS s := fun s hk => by
      have e := s.sz_eq
      rw [tS_eq]
      have := tZ_ge s.a
      have := tZ_ge s.b
      have := ih.2.1 s.body (by omega)
      have := ih.2.1 s.els (by omega)
      have := ih.2.2 s.cases (by omega)
      omega
    refine ⟨h1, fun l => ?_, fun l => ?_⟩
    · induction l with
      | nil => simp [tSs]
      | cons x r ihr =>
        intro hk
        rw [ssz] at hk
        rw [tSs]
        have := h1 x (by omega)
        have := ihr (by omega)
        omega
    · induction l with
      | nil => simp [tCs]
      | cons x r ihr =>
        intro hk
        rw [csz] at hk
        rw [tCs, tC_eq]
        have := x.sz_eq
        have := ih.2.1 x.body (by omega)
        have := ihr (by omega)
        simp only [List.length_cons]
        omega
theorem tSs_ge (l : List St) : 0 ≤ tSs l := (t_ge _).2.1 l (Nat.le_refl _)
theorem tS_ge (s : St) : 0 ≤ tS s := (t_ge _).1 s (Nat.le_refl _)
theorem tCs_ge (l : List Ca) : (l.length : Int) ≤ tCs l := (t_ge _).2.2 l (Nat.le_refl _)

theorem cntS_eq' (s : St) (n : Int) : cntS s n = cntSs s.els (cntCs s.cases (cntSs s.body (cntZ s.b (cntZ s.a (n + (1 + (s.cases.length : Int))))))) := by
  cases s; simp only [cntS, St.els, St.cases, St.body, St.a, St.b]
theorem ps (k : Nat) : (∀ (s : St) (n : Int), s.sz ≤ k → PP 4096 n (tS s) (cntS s n)) ∧ (∀ (l : List St) (n : Int), ssz l ≤ k → PP 4096 n (tSs l) (cntSs l n)) := by
  induction k with
  | zero =>
    refine ⟨fun s n hk => by have := s.sz_eq; omega, fun l n hk => ?_⟩
    cases l with
    | nil => simp only [cntSs, tSs]; exact PP.nil _ _
    | cons x r => rw [ssz] at hk; have := x.sz_eq; omega
  | succ k ih =>
    have hC : ∀ (l : List Ca) (n : Int), csz l ≤ k → PP 4096 n (tCs l - (l.length : Int)) (cntCs l n) := fun l => by
      induction l with
      | nil => intro n _; simp only [cntCs, tCs]; exact (PP.nil _ _).of (by simp)
      | cons c r ihr =>
        intro n hk
        rw [csz] at hk
        rw [cntCs, cntC_eq]
        have := c.sz_eq
        have := tCs_ge r
        exact ((ih.2 c.body n (by omega)).comp (ihr _ (by omega)) (by omega)).of (by rw [tCs, tC_eq]; simp only [List.length_cons]; omega)
    have h1 : ∀ (s : St) (n : Int), s.sz ≤ k + 1 → PP 4096 n (tS s) (cntS s n) := fun s n hk => by
      have e := s.sz_eq
      have a1 := tZ_ge s.a
      have a2 := tZ_ge s.b
      have a3 := tSs_ge s.body
      have a4 := tSs_ge s.els
      have a5 := tCs_ge s.cases
      rw [cntS_eq']
      exact ((((((PP.plus 4096 n (1 + (s.cases.length : Int)) (by omega)).comp (pz s.a _) a1).comp (pz s.b _) a2).comp (ih.2 s.body _ (by omega)) a3).comp (hC s.cases _ (by omega)) (by omega)).comp (ih.2 s.els _ (by omega)) a4).of (by rw [tS_eq]; omega)
    refine ⟨h1, fun l => ?_⟩
    induction l with
    | nil => intro n _; simp only [cntSs, tSs]; exact PP.nil _ _
    | cons x r ihr =>
      intro n hk
      rw [ssz] at hk
      have := tSs_ge r
      have := tS_ge x
      rw [cntSs]
      split
      · exact PP.past (by assumption) (by rw [tSs]; omega)
      · exact ((h1 x n (by omega)).comp (ihr _ (by omega)) (by omega)).of (by rw [tSs])
theorem ps' (k : Nat) : (∀ (s : St) (left n : Int), s.sz ≤ k → PP left n (tS s) (rS s left n)) ∧ (∀ (l : List St) (left n : Int), ssz l ≤ k → PP left n (tSs l) (rSs l left n)) := by
  induction k with
  | zero =>
    refine ⟨fun s left n hk => by have := s.sz_eq; omega, fun l left n hk => ?_⟩
    cases l with
    | nil => simp only [rSs, tSs]; exact PP.nil _ _
    | cons x r => rw [ssz] at hk; have := x.sz_eq; omega
  | succ k ih =>
    have hC : ∀ (l : List Ca) (left n : Int), csz l ≤ k → PP left n (tCs l) (rCs l left n) := fun l => by
      induction l with
      | nil => intro left n _; simp only [rCs, tCs]; exact PP.nil _ _
      | cons c r ihr =>
        intro left n hk
        rw [csz] at hk
        have := c.sz_eq
        have := tCs_ge r
        have := tSs_ge c.body
        rw [rCs]
        split
        · rw [rC_eq]
          exact ((PP.under1 (ih.2 c.body (left - n - 1) 0 (by omega))).comp (ihr left _ (by omega)) (by omega)).of (by rw [tCs, tC_eq])
        · exact PP.past (by omega) (by rw [tCs, tC_eq]; omega)
    have hB : ∀ (l : List St) (left n : Int), ssz l ≤ k → PP left n (tSs l) (rB l left n) := fun l left n hk => PP.under (ih.2 l (left - n) 0 hk)
    have h1 : ∀ (s : St) (left n : Int), s.sz ≤ k + 1 → PP left n (tS s) (rS s left n) := fun s left n hk => by
      have e := s.sz_eq
      have a1 := tZ_ge s.a
      have a2 := tZ_ge s.b
      have a3 := tSs_ge s.body
      have a4 := tSs_ge s.els
      have a5 := tCs_ge s.cases
      rw [rS_eq]
      exact ((((((PP.plus left n 1 (by omega)).comp (pz' s.a left _) a1).comp (pz' s.b left _) a2).comp (hB s.body left _ (by omega)) a3).comp (hC s.cases left _ (by omega)) (by omega)).comp (hB s.els left _ (by omega)) a4).of (by rw [tS_eq]; omega)
    refine ⟨h1, fun l => ?_⟩
    induction l with
    | nil => intro left n _; simp only [rSs, tSs]; exact PP.nil _ _
    | cons x r ihr =>
      intro left n hk
      rw [ssz] at hk
      have := tSs_ge r
      have := tS_ge x
      rw [rSs]
      split
      · exact ((h1 x left n (by omega)).comp (ihr left _ (by omega)) (by omega)).of (by rw [tSs])
      · exact PP.past (by omega) (by rw [tSs]; omega)

def tF : List Fu → Int | [] => 0 | f :: r => tSs f.body + tF r
theorem tF_ge : ∀ l : List Fu, 0 ≤ tF l
  | [] => by simp [tF]
  | f :: r => by rw [tF]; have := tSs_ge f.body; have := tF_ge r; omega
theorem pf : ∀ (l : List Fu) (n : Int), PP 4096 n (tF l) (cntF l n)
  | [], n => by rw [tF, cntF]; exact PP.nil _ _
  | f :: r, n => by
    rw [tF, cntF]
    exact ((ps _).2 f.body n (Nat.le_refl _)).comp (pf r _) (tF_ge r)
theorem pf' : ∀ (l : List Fu) (n : Int), PP 4096 n (tF l) (rF l n)
  | [], n => by rw [tF, rF]; exact PP.nil _ _
  | f :: r, n => by
    rw [tF, rF]
    have := tSs_ge f.body
    have := tF_ge r
    split
    · exact (PP.under ((ps' _).2 f.body (4096 - n) 0 (Nat.le_refl _))).comp (pf' r _) (tF_ge r)
    · exact PP.past (by omega) (by omega)
theorem nodes_same (p : Pr) : nodesZ p = rnodesZ p := by
  have h1 := pf p.funcs 0
  have h2 := pf' p.funcs 0
  have h3 := tF_ge p.funcs
  unfold nodesZ rnodesZ
  unfold PP at h1 h2
  split <;> omega
end Go.Proofs.YtbpemackmadhgaaGreatDoor

/- The document's own look at thresholds and counts. -/
namespace Go.Proofs.YtbpemackmadhgaaGreatDoor
open Go.RowKit Go.Sort

set_option maxRecDepth 100000 in
set_option maxHeartbeats 2000000 in
theorem head_any (p : Pr) (w : World) (hin : p.In w) : Calls Tryz.prog 14 #[p.val] w fun e w' => e = .returned (.int .i64 (wholeZ p)) ∧ Below w.heap.size w w' := by
  have HR : Hid (RowIn w p.wa 1 (p.widen.map fun z => [.int .i64 z])) := hin.2.2.2.1
  have HN : Hid (∀ w', Below w.heap.size w w' → Calls Tryz.prog 32 #[p.val] w' fun e w'' => e = .returned (.int .i64 (nodesZ p)) ∧ Below w'.heap.size w' w'') := fun w' hb => by
    rw [nodes_same]; exact rnodes_any p w' (hin.stay hb)
  have HE : Hid (wholeZ p = if 16 < p.widen.length then 3 else if hasZ (-9223372036854775808) p.widen = true then 1 else if riseB p.widen = false then 66 else if 32 < p.funcs.length then 3 else if 4096 < nodesZ p then 3 else 0) := (rfl : wholeZ p = _)
  generalize wholeZ p = res at HE ⊢
  generalize nodesZ p = nz at HN HE
  have HRB : Hid (∀ w', Below w.heap.size w w' → RowIn w' p.wa 1 (p.widen.map fun z => [.int .i64 z])) := fun w' hb => HR.out.below hb
  clear hin
  have hb1 := (Below.refl _ w).alloc (Nat.le_refl _) (.cells #[.slice p.wa p.widen.length p.wc, .slice p.fa p.funcs.length p.fc] 25)
  have hbx := boxL_new w #[.slice p.wa p.widen.length p.wc, .slice p.fa p.funcs.length p.fc] 25
  unfold Pr.val at HN ⊢
  by_cases e1 : 16 < p.widen.length
  · have e1' : (16 : Int) < (p.widen.length : Int) := by omega
    go_enter Tryz.func14, Tryz.ntmps14
    go_wp2_with fail
    go_ret
    exact ⟨ret_int (by rw [HE.out, if_pos e1]), hb1⟩
  · have e1' : ¬ (16 : Int) < (p.widen.length : Int) := by omega
    rw [if_neg e1] at HE
    go_enter Tryz.func14, Tryz.ntmps14
    go_upto_region 1 with fail
    generalize w.alloc (.cells #[.slice p.wa p.widen.length p.wc, .slice p.fa p.funcs.length p.fc] 25) = W1 at hb1 hbx ⊢
    have c0 := hbx 0 _ rfl
    have c1 := hbx 1 _ rfl
    have HRW : Hid (RowIn W1 p.wa 1 (p.widen.map fun z => [.int .i64 z])) := HRB.out W1 hb1
    clear hbx HRB HR
    go_wp2_with fail
    go_loopw [3] (fun t3 wr => ∃ (j : Nat), j ≤ p.widen.length ∧ t3 = .int .i64 j ∧ hasZ (-9223372036854775808) (p.widen.drop j) = hasZ (-9223372036854775808) p.widen ∧ wr = W1) (fun t3 _ => p.widen.length - (intOf t3).toNat)
    case atStart => exact ⟨0, Nat.zero_le _, rfl, rfl, rfl⟩
    case round =>
      obtain ⟨j, hj, rfl, hcnt, hwr⟩ := hrel
      obtain rfl := hwr.symm
      have HC : Hid (hasZ (-9223372036854775808) (p.widen.drop j) = hasZ (-9223372036854775808) p.widen) := hcnt
      clear hcnt
      by_cases hlt : j < p.widen.length
      · obtain ⟨b, o, hwa, d0⟩ := rowW_at HRW.out hlt
        have c0' := c0
        rw [hwa] at c0'
        clear hwa c0
        have hli : (j : Int) < (p.widen.length : Int) := by omega
        have HD : Hid (hasZ (-9223372036854775808) (p.widen.drop j) = (-9223372036854775808 == p.widen[j] || hasZ (-9223372036854775808) (p.widen.drop (j + 1)))) := hasZ_drop hlt
        generalize p.widen[j] = z at *
        rw [show ((-9223372036854775808 : Int) == z) = (z == -9223372036854775808) from Bool.beq_comm] at HD
        cases ez : (z == -9223372036854775808)
        · go_wp2_with fail
          go_roundw
          case rel => exact ⟨j + 1, by omega, by go_num, by rw [← HC.out, HD.out, ez]; rfl, trivial⟩
          case measure => simp [intOf]; omega
        · have HV : Hid (hasZ (-9223372036854775808) p.widen = true) := by show _ = _; rw [← HC.out, HD.out, ez]; rfl
          go_wp2_with fail
          go_ret
          exact ⟨ret_int (by rw [HE.out, if_pos HV.out]), hb1⟩
      · have hli : ¬ (j : Int) < (p.widen.length : Int) := by omega
        have HV : Hid (hasZ (-9223372036854775808) p.widen = false) := by show _ = _; rw [← HC.out, List.drop_eq_nil_of_le (by omega)]; rfl
        rw [if_neg (by rw [HV.out]; decide)] at HE
        clear HC HV
        go_wp2_with fail
        go_loopw [4] (fun t3 wr => ∃ (j nq : Nat), j ≤ p.widen.length ∧ t3 = .int .i64 (j + 1) ∧ riseB (p.widen.drop j) = riseB p.widen ∧ wr = W1.drewN nq) (fun t3 _ => p.widen.length + 1 - (intOf t3).toNat)
        case atStart => exact ⟨0, 0, Nat.zero_le _, rfl, rfl, rfl⟩
        case round =>
          obtain ⟨j, nq, hj, rfl, hcnt, rfl⟩ := hrel
          have HC : Hid (riseB (p.widen.drop j) = riseB p.widen) := hcnt
          clear hcnt
          by_cases hlt : j + 1 < p.widen.length
          · obtain ⟨b, o, hwa, d0⟩ := rowW_at HRW.out hlt
            obtain ⟨b', o', e, d1⟩ := rowW_at HRW.out (show j < p.widen.length by omega)
            rw [hwa] at e
            cases e
            have c0' := c0
            rw [hwa] at c0'
            clear hwa c0
            have hli : (j : Int) + 1 < (p.widen.length : Int) := by omega
            have HD : Hid (riseB (p.widen.drop j) = if p.widen[j + 1] ≤ p.widen[j]'(by omega) then false else riseB (p.widen.drop (j + 1))) := riseB_drop hlt
            generalize p.widen[j + 1] = z1 at *
            generalize p.widen[j] = z0 at *
            go_wp2_with fail
            go_quiet (fail)
            by_cases ez : z1 ≤ z0
            · have HV : Hid (riseB p.widen = false) := by show _ = _; rw [← HC.out, HD.out, if_pos ez]
              go_wp2_with fail
              go_ret
              exact ⟨ret_int (by rw [HE.out, if_pos HV.out]), (hb1.drewN _).drewN _⟩
            · go_wp2_with fail
              go_roundw
              case rel => exact ⟨j + 1, _, by omega, by go_num, by rw [← HC.out, HD.out, if_neg (by omega)], rfl⟩
              case measure => simp [intOf]; omega
          · have hli : ¬ (j : Int) + 1 < (p.widen.length : Int) := by omega
            have HV : Hid (riseB p.widen = true) := by
              show _ = _
              rw [← HC.out]
              match h : p.widen.drop j with
              | [] => rfl
              | [_] => rfl
              | _ :: _ :: _ => have := congrArg List.length h; simp at this; omega
            rw [if_neg (by rw [HV.out]; decide)] at HE
            have hb2 : Below w.heap.size w (W1.drewN nq) := hb1.drewN _
            clear HC HV
            by_cases e4 : 32 < p.funcs.length
            · have e4' : (32 : Int) < (p.funcs.length : Int) := by omega
              go_wp2_with fail
              go_ret
              exact ⟨ret_int (by rw [HE.out, if_pos e4]), hb2⟩
            · have e4' : ¬ (32 : Int) < (p.funcs.length : Int) := by omega
              rw [if_neg e4] at HE
              go_wp2_with fail
              refine (HN.out _ hb2).mono ?_
              rintro r w3 ⟨rfl, hbn⟩
              have hb3 : Below w.heap.size w w3 := hb2.trans (hbn.mono hb2.size)
              by_cases e5 : 4096 < nz
              · go_wp2_with fail
                go_ret
                exact ⟨ret_int (by rw [HE.out, if_pos e5]), hb3⟩
              · go_wp2_with fail
                go_ret
                exact ⟨ret_int (by rw [HE.out, if_neg (by omega)]), hb3⟩
end Go.Proofs.YtbpemackmadhgaaGreatDoor

/- The document's own Check: what the program's is. -/
namespace Go.Proofs.YtbpemackmadhgaaGreatDoor
open Go.RowKit Go.Sort

/-- The place of an answer, not written yet. -/
def ResZ (W : World) (B : Nat) : Prop := W.heap[B]? = some (.cells #[.int .i64 0, .int .i64 0, .int .i64 0] 29 (0, 0))
theorem ResZ.cell {W : World} {B : Nat} (h : ResZ W B) {j : Nat} (hj : j < 3) : W.cell? ⟨B, j, none⟩ = some (.int .i64 0) := by
  have h' : W.heap[B]? = some (.cells #[.int .i64 0, .int .i64 0, .int .i64 0] 29 (0, 0)) := h
  rw [Lib.cell_of_heap h']
  match j, hj with
  | 0, _ => rfl
  | 1, _ => rfl
  | 2, _ => rfl
theorem ResZ.frozen {W : World} {B : Nat} (h : ResZ W B) (j : Nat) : W.frozen? ⟨B, j, none⟩ = false := Lib.frozen_of_heap h _
theorem ResZ.lt {W : World} {B : Nat} (h : ResZ W B) : B < W.heap.size := (Array.getElem?_eq_some_iff.1 h).1
theorem ResZ.stay {W W' : World} {B : Nat} (h : ResZ W B) (hb : Below W.heap.size W W') : ResZ W' B := (hb.block B h.lt).trans h
theorem ResZ.only {W W' : World} {B b : Nat} (h : ResZ W B) (ho : OnlyB b W W') (hb : B ≠ b) : ResZ W' B := (ho.2.2.2.2 B h.lt hb).trans h
theorem BoxL.only {W W' : World} {B b : Nat} {cs : List Value} (h : BoxL W B cs) (ho : OnlyB b W W') (hB : B < W.heap.size) (hb : B ≠ b) : BoxL W' B cs := fun i v hi => (ho.cell hB hb).trans (h i v hi)
theorem wk_new (w : World) : Wk (w.alloc (.cells #[.int .i64 0, .int .i64 0] 54)) w.heap.size 0 0 := heap_alloc_new w _

set_option maxRecDepth 100000 in
set_option maxHeartbeats 2000000 in
theorem rcheck_any (p : Pr) (w : World) (hin : p.In w) : Calls Tryz.prog 7 #[p.val] w fun e w' => e = .returned (fltV (checkZ p).1 (checkZ p).2.1 (checkZ p).2.2) ∧ Below w.heap.size w w' := by
  have HW : Hid (∀ w', Below w.heap.size w w' → Calls Tryz.prog 14 #[p.val] w' fun e w'' => e = .returned (.int .i64 (wholeZ p)) ∧ Below w'.heap.size w' w'') := fun w' hb => head_any p w' (hin.stay hb)
  have HE : Hid (checkZ p = if wholeZ p ≠ 0 then (wholeZ p, 0, 0) else chkFs p.funcs 0) := (rfl : checkZ p = _)
  have HZ : Hid (wholeZ p = 0 → ∀ f ∈ p.funcs, ssz f.body ≤ 4096) := fun h => whole_sz h
  obtain ⟨_, _, _, _, _, hl, hc, _, hrow, hsub⟩ := hin
  have HR : Hid (RowIn w p.fa 3 (List.map Fu.cells p.funcs)) := hrow
  have HS : Hid (∀ f ∈ p.funcs, f.In w) := hsub
  clear hrow hsub
  generalize checkZ p = res at HE ⊢
  generalize wholeZ p = wz at HW HE HZ
  have hb1 := ((Below.refl _ w).alloc (Nat.le_refl _) (.cells #[.slice p.wa p.widen.length p.wc, .slice p.fa p.funcs.length p.fc] 25)).alloc (by simp) (.cells #[.int .i64 0, .int .i64 0, .int .i64 0] 29)
  unfold Pr.val at HW ⊢
  go_enter Tryz.func7, Tryz.ntmps7
  go_wp2_with fail
  refine (HW.out _ hb1).mono ?_
  rintro e w1 ⟨rfl, hbw⟩
  have HRZ : Hid (ResZ w1 (w.heap.size + 1)) := by
    refine ResZ.stay ?_ hbw
    have := heap_alloc_new (w.alloc (.cells #[.slice p.wa p.widen.length p.wc, .slice p.fa p.funcs.length p.fc] 25)) (.cells #[.int .i64 0, .int .i64 0, .int .i64 0] 29)
    rwa [World.size_alloc] at this
  have HBX : Hid (BoxL w1 w.heap.size [.slice p.wa p.widen.length p.wc, .slice p.fa p.funcs.length p.fc]) := by
    obtain ⟨hX, _, _⟩ := two_cells hbw
    exact fun j v h => hX j v (by simpa using h)
  have hb2 : Below w.heap.size w w1 := hb1.trans (hbw.mono (by simp; omega))
  have hs2 : w.heap.size + 1 + 1 ≤ w1.heap.size := by have := hbw.size; simp at this; omega
  clear hbw hb1
  cases e1 : (wz != 0)
  · have e1' : wz = 0 := by simpa using e1
    have HF : Hid (res = chkFs p.funcs 0) := (by rw [HE.out]; simp [e1'] : res = chkFs p.funcs 0)
    have HZ' : Hid (∀ f ∈ p.funcs, ssz f.body ≤ 4096) := HZ.out e1'
    clear HZ HE HW e1'
    go_wp2_with fail
    go_loopw [4] (fun t17 wr => ∃ (j : Nat), j ≤ p.funcs.length ∧ t17 = .int .i64 j ∧ chkFs (p.funcs.drop j) j = res ∧ Below w.heap.size w wr ∧ ResZ wr (w.heap.size + 1) ∧ BoxL wr w.heap.size [.slice p.wa p.widen.length p.wc, .slice p.fa p.funcs.length p.fc]) (fun t17 _ => p.funcs.length - (intOf t17).toNat)
    case atStart => exact ⟨0, Nat.zero_le _, rfl, HF.out.symm, hb2, HRZ.out, HBX.out⟩
    case round =>
      obtain ⟨j, hj, rfl, hcnt, hb, hrz, hbx⟩ := hrel
      have HC : Hid (chkFs (p.funcs.drop j) j = res) := hcnt
      have HRZ2 : Hid (ResZ wr (w.heap.size + 1)) := hrz
      have HBX2 : Hid (BoxL wr w.heap.size [.slice p.wa p.widen.length p.wc, .slice p.fa p.funcs.length p.fc]) := hbx
      have hrl := hrz.lt
      have c1 := hbx 1 _ rfl
      clear hcnt hrz hbx HRZ HBX
      by_cases hlt : j < p.funcs.length
      · obtain ⟨g, o, hfa, d0, d1, d2⟩ := rowF_at (HR.out.below hb) hlt
        have HD2 : Hid (∀ W', Below w.heap.size w W' → W'.cell? ⟨g, o + j * 3 + 2, none⟩ = some (.slice p.funcs[j].ba p.funcs[j].body.length p.funcs[j].bc)) := fun W' hb' => by
          obtain ⟨b', o', hpa', g0, g1, g2⟩ := rowF_at HR.out hlt
          rw [hfa] at hpa'
          cases hpa'
          exact (hb'.cell (p := ⟨g, o + j * 3 + 2, none⟩) (lt_of_cell g2)).trans g2
        have HFA : Hid (p.fa = some ⟨g, o, none⟩) := hfa
        rw [hfa] at c1
        clear hfa
        have hli : (j : Int) < (p.funcs.length : Int) := by omega
        have HY : Hid (p.funcs[j].In w) := HS.out p.funcs[j] (List.getElem_mem hlt)
        have HSZ : Hid (ssz p.funcs[j].body ≤ 4096) := HZ'.out p.funcs[j] (List.getElem_mem hlt)
        have HD : Hid (chkFs (p.funcs.drop j) j = if (chkF p.funcs[j]).1 ≠ 0 then ((chkF p.funcs[j]).1, (j : Int), (chkF p.funcs[j]).2) else chkFs (p.funcs.drop (j + 1)) (j + 1)) := chkFs_drop hlt
        generalize p.funcs[j] = f at *
        have HFC : Hid (Calls Tryz.prog 15 #[f.val] wr fun e w' => e = .returned (.int .i64 (headZ f)) ∧ Below wr.heap.size wr w') := face_any f wr (HY.out.stay hb)
        unfold Fu.val at HFC
        go_wp2_with fail
        refine HFC.out.mono ?_
        rintro e w2 ⟨rfl, hbf⟩
        have hb3 : Below w.heap.size w w2 := hb.trans (hbf.mono hb.size)
        have HRZ3 : Hid (ResZ w2 (w.heap.size + 1)) := HRZ2.out.stay hbf
        have HBX3 : Hid (BoxL w2 w.heap.size [.slice p.wa p.widen.length p.wc, .slice p.fa p.funcs.length p.fc]) := HBX2.out.below hbf (by omega)
        have hrl3 := HRZ3.out.lt
        have HCF : Hid (chkF f = if headZ f ≠ 0 then (headZ f, 0) else chkSs f.body 1 0) := (rfl : chkF f = _)
        clear hbf c1 d0 d1 d2 hb HRZ2 HBX2 HFC hrl
        generalize headZ f = hz at HCF ⊢
        cases eh : (hz != 0)
        · have eh' : hz = 0 := by simpa using eh
          have HCG : Hid (chkF f = chkSs f.body 1 0) := (by rw [HCF.out, if_neg (by simpa using eh')] : chkF f = _)
          rw [HCG.out] at HD
          clear HCF HCG eh'
          have hb4 : Below w2.heap.size w2 (w2.alloc (.cells #[.int .i64 0, .int .i64 0] 54)) := (Below.refl _ w2).alloc (Nat.le_refl _) _
          have hwk := wk_new w2
          have hs4 : w2.heap.size < (w2.alloc (.cells #[.int .i64 0, .int .i64 0] 54)).heap.size := by simp
          go_upto_region 11 with fail
          generalize w2.alloc (.cells #[.int .i64 0, .int .i64 0] 54) = W4 at hb4 hwk hs4 ⊢
          have hb5 : Below w.heap.size w W4 := hb3.trans (hb4.mono hb3.size)
          have HBX4 : Hid (BoxL W4 w.heap.size [.slice p.wa p.widen.length p.wc, .slice p.fa p.funcs.length p.fc]) := HBX3.out.below hb4 (by omega)
          have HRZ4 : Hid (ResZ W4 (w.heap.size + 1)) := HRZ3.out.stay hb4
          have c1 := HBX4.out 1 _ rfl
          rw [HFA.out] at c1
          have d2 := HD2.out W4 hb5
          have HAL : Hid (Calls Tryz.prog 16 #[.pointer (some ⟨w2.heap.size, 0, none⟩), .slice f.ba f.body.length f.bc, .int .i64 1] W4 fun r w' => r = .returned (.tuple #[]) ∧ Wk w' w2.heap.size (chkSs f.body 1 0).2 (chkSs f.body 1 0).1 ∧ OnlyB w2.heap.size W4 w') := wall_any w w2.heap.size hb3.size f.body f.ba f.bc W4 HY.out.2.2.2.2.2.2 hb5 hwk (by have := HSZ.out; omega)
          generalize chkSs f.body 1 0 = q at HD HAL
          obtain ⟨p1, p2⟩ := q
          simp only at HD HAL
          generalize w2.heap.size = b at *
          go_wp2_with fail
          refine HAL.out.mono ?_
          rintro r w5 ⟨rfl, hw5, ho5⟩
          have hb6 : Below w.heap.size w w5 := OnlyB.on hb5 (by omega) ho5
          have HRZ5 : Hid (ResZ w5 (w.heap.size + 1)) := HRZ4.out.only ho5 (by omega)
          have HBX5 : Hid (BoxL w5 w.heap.size [.slice p.wa p.widen.length p.wc, .slice p.fa p.funcs.length p.fc]) := HBX4.out.only ho5 (by omega) (by omega)
          have k0 := hw5.cell0
          have k1 := hw5.cell1
          have r0 := HRZ5.out.cell (j := 0) (by omega)
          have r1 := HRZ5.out.cell (j := 1) (by omega)
          have r2 := HRZ5.out.cell (j := 2) (by omega)
          have q0 := HRZ5.out.frozen 0
          have q1 := HRZ5.out.frozen 1
          have q2 := HRZ5.out.frozen 2
          clear hw5 ho5 c1 d2 HAL hwk HBX4 HRZ4 HBX3 HRZ3 hb4
          cases ep : (p1 != 0)
          · have ep' : p1 = 0 := by simpa using ep
            have HV : Hid (chkFs (p.funcs.drop (j + 1)) (j + 1) = res) := (by rw [← HC.out, HD.out, if_neg (by simpa using ep')] : _ = res)
            clear ep' HC HD
            go_wp2_with fail
            go_roundw
            case rel => exact ⟨j + 1, by omega, by go_num, HV.out, hb6, HRZ5.out, HBX5.out⟩
            case measure => simp [intOf]; omega
          · have ep' : p1 ≠ 0 := by simpa using ep
            have HG : Hid (res = (p1, (j : Int), p2)) := (by rw [← HC.out, HD.out, if_pos ep'] : res = _)
            clear HC HD ep'
            go_wp2_with fail
            go_region
            go_wp2_with fail
            refine bodyPost_ret (v := fltV p1 j p2) (by simp [results, Tryz.results7, go_sem, r0, r1, r2]) rfl ⟨?_, (below_set3 hb6 (by omega) _ _ _).drew⟩
            rw [HG.out]
        · have eh' : hz ≠ 0 := by simpa using eh
          have HG : Hid (res = (hz, (j : Int), 0)) := (by rw [← HC.out, HD.out, HCF.out, if_pos eh']; simp [eh'] : res = _)
          have r0 := HRZ3.out.cell (j := 0) (by omega)
          have r1 := HRZ3.out.cell (j := 1) (by omega)
          have r2 := HRZ3.out.cell (j := 2) (by omega)
          have q0 := HRZ3.out.frozen 0
          have q1 := HRZ3.out.frozen 1
          have q2 := HRZ3.out.frozen 2
          clear HC HD HCF eh'
          go_wp2_with fail
          refine bodyPost_ret (v := fltV hz j 0) (by simp [results, Tryz.results7, go_sem, r0, r1, r2]) rfl ⟨?_, below_set3 hb3 (by omega) _ _ _⟩
          rw [HG.out]
      · have hli : ¬ (j : Int) < (p.funcs.length : Int) := by omega
        have r0 := HRZ2.out.cell (j := 0) (by omega)
        have r1 := HRZ2.out.cell (j := 1) (by omega)
        have r2 := HRZ2.out.cell (j := 2) (by omega)
        have q0 := HRZ2.out.frozen 0
        have q1 := HRZ2.out.frozen 1
        have q2 := HRZ2.out.frozen 2
        have HG : Hid (res = (0, 0, 0)) := (by rw [← HC.out, List.drop_eq_nil_of_le (by omega), chkFs] : res = _)
        clear HC
        go_wp2_with fail
        refine bodyPost_ret (v := fltV 0 0 0) (by simp [results, Tryz.results7, go_sem, r0, r1, r2]) rfl ⟨?_, below_set3 hb (by omega) _ _ _⟩
        rw [HG.out]
  · have e1' : wz ≠ 0 := by simpa using e1
    have HG : Hid (res = (wz, 0, 0)) := (by rw [HE.out, if_pos e1'] : res = _)
    have r0 := HRZ.out.cell (j := 0) (by omega)
    have r1 := HRZ.out.cell (j := 1) (by omega)
    have r2 := HRZ.out.cell (j := 2) (by omega)
    have q0 := HRZ.out.frozen 0
    have q1 := HRZ.out.frozen 1
    have q2 := HRZ.out.frozen 2
    go_wp2_with fail
    refine bodyPost_ret (v := fltV wz 0 0) (by simp [results, Tryz.results7, go_sem, r0, r1, r2]) rfl ⟨?_, below_set3 hb2 (by omega) _ _ _⟩
    rw [HG.out]
end Go.Proofs.YtbpemackmadhgaaGreatDoor

/- What is written of each element: thresholds, parameters. -/
namespace Go.Proofs.YtbpemackmadhgaaGreatDoor
open Go.RowKit Go.Sort

/-- A slice of strings that a call has made. -/
def Strs (w : World) (v : Value) (xs : List ByteArray) : Prop := ∃ a cap, v = .slice a xs.length cap ∧ xs.length ≤ cap ∧ (xs ≠ [] → ∃ g, a = some ⟨g, 0, none⟩ ∧ g < w.heap.size ∧ ∀ (j : Nat) x, xs[j]? = some x → w.cell? ⟨g, j, none⟩ = some (.string x))
theorem strs_own {w : World} {B : Nat} {v : Value} {xs : List ByteArray} (h : w.ownsRow B 9 1 v xs.length (xs.map Value.string)) : Strs w v xs := by
  rcases h.2 with ⟨rfl, h0⟩ | ⟨g, cap, cur, rfl, _, hg, hcap, _⟩
  · refine ⟨none, 0, by rw [h0], by omega, fun hne => absurd (List.eq_nil_of_length_eq_zero h0) hne⟩
  · refine ⟨some ⟨g, 0, none⟩, cap, rfl, hcap, fun _ => ⟨g, rfl, (Array.getElem?_eq_some_iff.1 hg).1, fun j x hj => ?_⟩⟩
    have := h.cells (g := g) rfl j (.string x) (by simp [hj])
    rwa [Addr.add_lit, Nat.zero_add] at this
theorem Tryz.infoStr : (Tryz.prog.info? 9).map (fun i => (i.zero, i.size, i.bytes)) = some (some (.string ⟨#[]⟩), 1, 16) := by kernel_rfl
theorem owns_slice {W : World} {base : Nat} {e : TypeId} {v : Value} {n : Nat} {xs : List Value} (h : W.ownsRow base e 1 v n xs) : ∃ a cap, v = .slice a n cap := by
  rcases h.2 with ⟨rfl, rfl⟩ | ⟨g, cap, _, h, _⟩
  · exact ⟨none, 0, rfl⟩
  · exact ⟨_, cap, h⟩
theorem map_take {α : Type} (f : α → ByteArray) (l : List α) (j : Nat) (h : j < l.length) : ((l.take (j + 1)).map f).map Value.string = ((l.take j).map f).map Value.string ++ [.string (f l[j])] := by
  rw [List.take_add_one, List.getElem?_eq_getElem h, Option.toList_some, List.map_append, List.map_append]; rfl

theorem owns_stay {w w' : World} {B : Nat} {e : TypeId} {v : Value} {n : Nat} {xs : List Value} (h : w.ownsRow B e 1 v n xs) (hb : Below w.heap.size w w') : w'.ownsRow B e 1 v n xs := by
  refine ⟨h.1, ?_⟩
  rcases h.2 with h0 | ⟨g, cap, cur, e, hg1, hg, r⟩
  · exact .inl h0
  · exact .inr ⟨g, cap, cur, e, hg1, (hb.block g (Array.getElem?_eq_some_iff.1 hg).1).trans hg, r⟩

set_option maxRecDepth 100000 in
set_option maxHeartbeats 4000000 in
theorem eachint64_any (l : List Int) (a : Option Addr) (c : Nat) (w : World) (hm : l.length ≤ 1000000) (hrow : RowIn w a 1 (l.map fun z => [.int .i64 z]))
    (hf : ∀ x ∈ l, ∀ w', Below w.heap.size w w' → Calls Tryz.prog 38 #[.int .i64 x] w' fun e w'' => e = .returned (sB (Lib.itoa x)) ∧ Below w'.heap.size w' w'') :
    Calls Tryz.prog 37 #[.slice a l.length c, .func (.func 38) #[] #[]] w fun e w' => ∃ v, e = .returned v ∧ Strs w' v (l.map fun x => ⟨(Lib.itoa x).toArray⟩) ∧ Below w.heap.size w w' := by
  obtain ⟨i0, hi, hz0, hz1, hz2⟩ := info_parts Tryz.infoStr
  have HI : Hid (Tryz.prog.info? 9 = some i0) := hi
  have HR : Hid (RowIn w a 1 (l.map fun z => [.int .i64 z])) := hrow
  have HF : Hid (∀ x ∈ l, ∀ w', Below w.heap.size w w' → Calls Tryz.prog 38 #[.int .i64 x] w' fun e w'' => e = .returned (sB (Lib.itoa x)) ∧ Below w'.heap.size w' w'') := hf
  clear hrow hf hi
  go_enter Tryz.func37, Tryz.ntmps37
  go_wp2_with fail
  go_loopw [5, 10] (fun t5 t10 wr => ∃ (j : Nat), j ≤ l.length ∧ t10 = .int .i64 j ∧ wr.ownsRow w.heap.size 9 1 t5 j (((l.take j).map fun x => (⟨(Lib.itoa x).toArray⟩ : ByteArray)).map Value.string) ∧ Below w.heap.size w wr) (fun _ t10 _ => l.length - (intOf t10).toNat)
  case atStart => exact ⟨0, Nat.zero_le _, rfl, World.ownsRow_nil _ _ _ _, Below.refl _ w⟩
  case round =>
    obtain ⟨j, hj, rfl, hown, hb⟩ := hrel
    obtain ⟨va, vc, rfl⟩ := owns_slice hown
    have HO : Hid (wr.ownsRow w.heap.size 9 1 (.slice va j vc) j (((l.take j).map fun x => (⟨(Lib.itoa x).toArray⟩ : ByteArray)).map Value.string)) := hown
    clear hown
    have hws := hb.size
    by_cases hlt : j < l.length
    · obtain ⟨b, o, rfl, c0⟩ := rowW_at (HR.out.below hb) hlt
      have hli : (j : Int) < (l.length : Int) := by omega
      have HT := map_take (fun x => (⟨(Lib.itoa x).toArray⟩ : ByteArray)) l j hlt
      have HM : Hid (l[j] ∈ l) := List.getElem_mem hlt
      have HT' : Hid (((l.take (j + 1)).map fun x => (⟨(Lib.itoa x).toArray⟩ : ByteArray)).map Value.string = ((l.take j).map fun x => (⟨(Lib.itoa x).toArray⟩ : ByteArray)).map Value.string ++ [.string ⟨(Lib.itoa l[j]).toArray⟩]) := HT
      clear HT
      generalize l[j] = x at *
      generalize ((l.take j).map fun x => (⟨(Lib.itoa x).toArray⟩ : ByteArray)).map Value.string = pre at HO HT'
      have hb1 : Below w.heap.size w _ := hb
      have hs1 := hb1.size
      go_wp2_with fail
      refine (HF.out x HM.out _ hb1).mono ?_
      rintro e w1 ⟨rfl, hbf⟩
      have hb2 : Below w.heap.size w w1 := hb1.trans (hbf.mono hs1)
      have hs2 := hb2.size
      have HO1 : Hid (w1.ownsRow w.heap.size 9 1 (.slice va j vc) j pre) := owns_stay HO.out hbf
      clear c0 hbf
      go_wp2_with (at_builtin; refine wpList_append_own _ rfl _ _ 81 rfl w.heap.size 9 i0 (.string ⟨#[]⟩) 1 16 Tryz.underlying81 HI.out hz0 hz1 hz2 rfl (by decide) _ _ _ rfl (HO1.out.alloc _) ⟨w1.heap.size, 0, none⟩ 1 1 [sB (Lib.itoa x)] rfl rfl (new_cell _ _ _) ?c2 ?c3 ?c4 ?c5 ?_)
      case c2 => intro u hu; simp at hu; subst hu; rfl
      case c3 => unfold maxLen; omega
      case c4 => omega
      case c5 => simp; omega
      intro v' w2 hown' hgrow _
      obtain ⟨g', cap', rfl⟩ := owns_succ hown'
      have HO' : Hid (w2.ownsRow w.heap.size 9 1 (.slice (some ⟨g', 0, none⟩) (j + 1) cap') (j + 1) (pre ++ [sB (Lib.itoa x)])) := hown'
      clear hown'
      go_wp2_with fail
      go_roundw
      case rel =>
        refine ⟨j + 1, by omega, by go_num, ?_, ?_⟩
        · rw [HT'.out]; exact HO'.out
        · exact (hb2.alloc hs2 _).grown hgrow (by simp; omega) (fun k hk => (HO1.out.lt k hk).1)
      case measure => simp [intOf]; omega
    · obtain rfl : j = l.length := by omega
      go_wp2_with fail
      go_ret
      refine ⟨_, rfl, strs_own (B := w.heap.size) ?_, hb⟩
      have := HO.out
      rw [List.take_length] at this
      simpa using this

set_option maxRecDepth 100000 in
set_option maxHeartbeats 4000000 in
theorem eachParam_any (l : List Pa) (a : Option Addr) (c : Nat) (w : World) (hm : l.length ≤ 1000000) (hrow : RowIn w a 3 (l.map Pa.cells))
    (hf : ∀ x ∈ l, ∀ w', Below w.heap.size w w' → Calls Tryz.prog 40 #[x.val] w' fun e w'' => e = .returned (sB (paB x)) ∧ Below w'.heap.size w' w'') :
    Calls Tryz.prog 39 #[.slice a l.length c, .func (.func 40) #[] #[]] w fun e w' => ∃ v, e = .returned v ∧ Strs w' v (l.map fun x => ⟨(paB x).toArray⟩) ∧ Below w.heap.size w w' := by
  obtain ⟨i0, hi, hz0, hz1, hz2⟩ := info_parts Tryz.infoStr
  have HI : Hid (Tryz.prog.info? 9 = some i0) := hi
  have HR : Hid (RowIn w a 3 (l.map Pa.cells)) := hrow
  have HF : Hid (∀ x ∈ l, ∀ w', Below w.heap.size w w' → Calls Tryz.prog 40 #[x.val] w' fun e w'' => e = .returned (sB (paB x)) ∧ Below w'.heap.size w' w'') := hf
  clear hrow hf hi
  go_enter Tryz.func39, Tryz.ntmps39
  go_wp2_with fail
  go_loopw [5, 10] (fun t5 t10 wr => ∃ (j : Nat), j ≤ l.length ∧ t10 = .int .i64 j ∧ wr.ownsRow w.heap.size 9 1 t5 j (((l.take j).map fun x => (⟨(paB x).toArray⟩ : ByteArray)).map Value.string) ∧ Below w.heap.size w wr) (fun _ t10 _ => l.length - (intOf t10).toNat)
  case atStart => exact ⟨0, Nat.zero_le _, rfl, World.ownsRow_nil _ _ _ _, Below.refl _ w⟩
  case round =>
    obtain ⟨j, hj, rfl, hown, hb⟩ := hrel
    obtain ⟨va, vc, rfl⟩ := owns_slice hown
    have HO : Hid (wr.ownsRow w.heap.size 9 1 (.slice va j vc) j (((l.take j).map fun x => (⟨(paB x).toArray⟩ : ByteArray)).map Value.string)) := hown
    clear hown
    have hws := hb.size
    by_cases hlt : j < l.length
    · obtain ⟨b, o, rfl, c0, c1, c2⟩ := rowP_at (HR.out.below hb) hlt
      have hli : (j : Int) < (l.length : Int) := by omega
      have HT := map_take (fun x => (⟨(paB x).toArray⟩ : ByteArray)) l j hlt
      have HM : Hid (l[j] ∈ l) := List.getElem_mem hlt
      have HT' : Hid (((l.take (j + 1)).map fun x => (⟨(paB x).toArray⟩ : ByteArray)).map Value.string = ((l.take j).map fun x => (⟨(paB x).toArray⟩ : ByteArray)).map Value.string ++ [.string ⟨(paB l[j]).toArray⟩]) := HT
      clear HT
      generalize l[j] = x at *
      generalize ((l.take j).map fun x => (⟨(paB x).toArray⟩ : ByteArray)).map Value.string = pre at HO HT'
      have hb1 : Below w.heap.size w _ := (hb.alloc hws (.cells #[.string x.name, .int .i64 x.lo, .int .i64 x.hi] 38))
      have hs1 := hb1.size
      go_wp2_with fail
      refine (HF.out x HM.out _ hb1).mono ?_
      rintro e w1 ⟨rfl, hbf⟩
      have hb2 : Below w.heap.size w w1 := hb1.trans (hbf.mono hs1)
      have hs2 := hb2.size
      have HO1 : Hid (w1.ownsRow w.heap.size 9 1 (.slice va j vc) j pre) := owns_stay (HO.out.alloc _) hbf
      clear c0 c1 c2 hbf
      go_wp2_with (at_builtin; refine wpList_append_own _ rfl _ _ 81 rfl w.heap.size 9 i0 (.string ⟨#[]⟩) 1 16 Tryz.underlying81 HI.out hz0 hz1 hz2 rfl (by decide) _ _ _ rfl (HO1.out.alloc _) ⟨w1.heap.size, 0, none⟩ 1 1 [sB (paB x)] rfl rfl (new_cell _ _ _) ?c2 ?c3 ?c4 ?c5 ?_)
      case c2 => intro u hu; simp at hu; subst hu; rfl
      case c3 => unfold maxLen; omega
      case c4 => omega
      case c5 => simp; omega
      intro v' w2 hown' hgrow _
      obtain ⟨g', cap', rfl⟩ := owns_succ hown'
      have HO' : Hid (w2.ownsRow w.heap.size 9 1 (.slice (some ⟨g', 0, none⟩) (j + 1) cap') (j + 1) (pre ++ [sB (paB x)])) := hown'
      clear hown'
      go_wp2_with fail
      go_roundw
      case rel =>
        refine ⟨j + 1, by omega, by go_num, ?_, ?_⟩
        · rw [HT'.out]; exact HO'.out
        · exact (hb2.alloc hs2 _).grown hgrow (by simp; omega) (fun k hk => (HO1.out.lt k hk).1)
      case measure => simp [intOf]; omega
    · obtain rfl : j = l.length := by omega
      go_wp2_with fail
      go_ret
      refine ⟨_, rfl, strs_own (B := w.heap.size) ?_, hb⟩
      have := HO.out
      rw [List.take_length] at this
      simpa using this
end Go.Proofs.YtbpemackmadhgaaGreatDoor

/- An expression's text. -/
namespace Go.Proofs.YtbpemackmadhgaaGreatDoor
open Go.RowKit

def rkE (k : Int) : Int := (formE k.toNat).rank
def sgE (k : Int) : List UInt8 := (formE k.toNat).sign.data.toList
/-- A text that must have a rank. -/
def wiB (r least : Int) (t : List UInt8) : List UInt8 := if r < least then [40] ++ t ++ [41] else t
/-- An expression's text, of its fields, its arguments' kinds and their texts. -/
def txOf (k n : Int) (s : ByteArray) (ks : List Int) (ts : List (List UInt8)) : List UInt8 :=
  if k = 1 then Lib.itoa n
  else if k = 2 then s.data.toList
  else if k = 3 then s.data.toList ++ [91] ++ ts.getD 0 [] ++ [93]
  else if k = 4 then s.data.toList ++ [40] ++ comB ts ++ [41]
  else if k = 5 ∨ k = 6 then sgE k ++ wiB (rkE (ks.getD 0 0)) (rkE k) (ts.getD 0 [])
  else if k = 20 then wiB (rkE (ks.getD 0 0)) (rkE k + 1) (ts.getD 0 []) ++ [32, 63, 32] ++ ts.getD 1 [] ++ [32, 58, 32] ++ ts.getD 2 []
  else wiB (rkE (ks.getD 0 0)) (rkE k) (ts.getD 0 []) ++ [32] ++ sgE k ++ [32] ++ wiB (rkE (ks.getD 1 0)) (rkE k + 1) (ts.getD 1 [])
mutual
def txE : Ex → List UInt8
  | .mk k n s _ _ l => txOf k n s (l.map Ex.kind) (txL l)
def txL : List Ex → List (List UInt8)
  | [] => []
  | x :: r => txE x :: txL r
end
theorem txL_map (l : List Ex) : txL l = l.map txE := by
  induction l with
  | nil => simp [txL]
  | cons x r ih => simp [txL, ih]
theorem txE_eq (x : Ex) : txE x = txOf x.kind x.n x.name (x.args.map Ex.kind) (x.args.map txE) := by
  cases x; simp only [txE, Ex.kind, Ex.n, Ex.name, Ex.args, txL_map]

/-- An expression that has a form. -/
def OkE (x : Ex) : Prop := ∃ lv, chkE x lv = 0
theorem chkL_mem {l : List Ex} {lv : Int} (h : chkL l lv = 0) : ∀ y ∈ l, chkE y lv = 0 := by
  induction l with
  | nil => intro y hy; cases hy
  | cons x r ih =>
    rw [chkL] at h
    by_cases hx : chkE x lv ≠ 0
    · rw [if_pos hx] at h; exact absurd h hx
    · rw [if_neg hx] at h
      intro y hy
      rcases List.mem_cons.1 hy with rfl | hy
      · simpa using hx
      · exact ih h y hy
theorem OkE.parts {x : Ex} (h : OkE x) : selfE x = 0 ∧ ∀ y ∈ x.args, OkE y := by
  obtain ⟨lv, h⟩ := h
  rw [chkE_eq] at h
  by_cases h1 : 32 < lv
  · rw [if_pos h1] at h; omega
  · rw [if_neg h1] at h
    by_cases h2 : selfE x ≠ 0
    · rw [if_pos h2] at h; exact absurd h h2
    · rw [if_neg h2] at h
      exact ⟨by simpa using h2, fun y hy => ⟨_, chkL_mem h y hy⟩⟩
theorem nameZ_len {s : ByteArray} (h : nameZ s = true) : s.size ≤ 16 := by
  unfold nameZ nameB at h
  rw [← ba_len]
  split at h
  · cases h
  · rename_i c r hl
    simp only [Bool.and_eq_true, decide_eq_true_eq] at h
    exact h.1.1.1
/-- What the tests on its own fields tell. -/
theorem selfE_zero {x : Ex} (h : selfE x = 0) : ∃ kn : Nat, x.kind = kn ∧ 1 ≤ kn ∧ kn ≤ 20 ∧ ((formE kn).args ≠ -1 → (x.args.length : Int) = (formE kn).args) ∧ (bits .and .i64 (formE kn).fields 1 ≠ 0 → nameZ x.name = true) ∧ 0 ≤ x.n := by
  unfold selfE at h
  split at h
  · omega
  rename_i h1
  split at h
  · omega
  split at h
  · omega
  rename_i h3
  split at h
  · omega
  rename_i h4
  split at h
  · omega
  rename_i h5
  have hk : isE x.kind = true := by simpa using h1
  simp only [isE, Bool.and_eq_true, decide_eq_true_eq] at hk
  refine ⟨x.kind.toNat, by omega, by omega, by omega, fun hne => ?_, fun hne => ?_, by omega⟩
  · simp only [Bool.and_eq_true, bne_iff_ne, not_and, Decidable.not_not] at h3
    exact h3 hne
  · simp only [Bool.and_eq_true, bne_iff_ne, Bool.not_eq_true', not_and, Bool.not_eq_false] at h4
    exact h4 hne
theorem comB_len (ts : List (List UInt8)) : (comB ts).length ≤ (ts.map fun t => t.length + 2).sum := by
  induction ts with
  | nil => simp [comB]
  | cons x r ih =>
    cases r with
    | nil => simp [comB]
    | cons y r =>
      rw [comB]
      simp only [List.length_append, List.map_cons, List.sum_cons, List.length_cons, List.length_nil] at ih ⊢
      omega
theorem wiB_len (r least : Int) (t : List UInt8) : (wiB r least t).length ≤ t.length + 2 := by
  unfold wiB; split
  · simp
  · omega
theorem sgE_len (kn : Nat) (h : kn ≤ 20) : (sgE (kn : Int)).length ≤ 2 := by
  have : ∀ k, k < 21 → (formE k).sign.data.toList.length ≤ 2 := by decide
  unfold sgE; rw [Int.toNat_natCast]; exact this kn (by omega)
theorem szL_sum (l : List Ex) : szL l = (l.map Ex.sz).sum := by
  induction l with
  | nil => simp [szL]
  | cons x r ih => rw [szL, ih]; simp
theorem Ex.sz_pos (x : Ex) : 1 ≤ x.sz := by rw [x.sz_args]; omega
theorem args_two (k : Nat) (h : 7 ≤ k) (h' : k ≤ 20) (h2 : k ≠ 20) : (formE k).args = 2 := by
  have : ∀ k, k < 21 → k < 7 ∨ k = 20 ∨ (formE k).args = 2 := by decide
  rcases this k (by omega) with h | h | h
  · omega
  · omega
  · exact h
/-- A text is no longer than this. -/
theorem txE_len {w : World} (k : Nat) : ∀ x : Ex, x.sz ≤ k → x.In w → OkE x → (txE x).length + 4 ≤ 32 * x.sz := by
  induction k with
  | zero => intro x hk; have := x.sz_pos; omega
  | succ k ih =>
    intro x hk hin hok
    obtain ⟨hself, hargs⟩ := hok.parts
    obtain ⟨kn, hkn, hk1, hk2, hlen, hname, hn⟩ := selfE_zero hself
    obtain ⟨_, hI, _, _, _, _, _, hsub⟩ := Ex.in_iff.1 hin
    have hsz := x.sz_args
    have hsub' : ∀ y ∈ x.args, (txE y).length + 4 ≤ 32 * y.sz := fun y hy => ih y (by have := szL_mem hy; omega) (hsub y hy) (hargs y hy)
    have hnm : bits .and .i64 (formE kn).fields 1 ≠ 0 → x.name.data.toList.length ≤ 16 := fun h => by rw [ba_len]; exact nameZ_len (hname h)
    rw [txE_eq, txOf, hkn]
    by_cases e1 : (kn : Int) = 1
    · rw [if_pos e1]; have := Lib.itoa_length_le x.n hI.1 hI.2; omega
    rw [if_neg e1]
    by_cases e2 : (kn : Int) = 2
    · rw [if_pos e2]; obtain rfl : kn = 2 := by omega
      have := hnm (by decide); omega
    rw [if_neg e2]
    by_cases e3 : (kn : Int) = 3
    · rw [if_pos e3]; obtain rfl : kn = 3 := by omega
      have h16 := hnm (by decide)
      have hl := hlen (by decide)
      match hx : x.args, hl with
      | [y], _ =>
        have := hsub' y (by rw [hx]; simp)
        rw [hx, szL, szL] at hsz
        simp only [List.map_cons, List.map_nil, List.getD_cons_zero, List.length_append, List.length_cons, List.length_nil]; omega
      | [], hl => simp [formE] at hl
      | _ :: _ :: _, hl => simp [formE] at hl; omega
    rw [if_neg e3]
    by_cases e4 : (kn : Int) = 4
    · rw [if_pos e4]; obtain rfl : kn = 4 := by omega
      have h16 := hnm (by decide)
      have hc := comB_len (x.args.map txE)
      have hs : ((x.args.map txE).map fun t => t.length + 2).sum ≤ 32 * szL x.args := by
        have : ∀ l : List Ex, (∀ y ∈ l, (txE y).length + 4 ≤ 32 * y.sz) → ((l.map txE).map fun t => t.length + 2).sum ≤ 32 * szL l := by
          intro l
          induction l with
          | nil => intro _; simp
          | cons y r ihr =>
            intro h
            have a1 := h y (by simp)
            have a2 := ihr (fun z hz => h z (by simp [hz]))
            rw [szL]; simp only [List.map_cons, List.sum_cons]; omega
        exact this _ hsub'
      simp only [List.length_append, List.length_cons, List.length_nil]; omega
    rw [if_neg e4]
    by_cases e5 : (kn : Int) = 5 ∨ (kn : Int) = 6
    · rw [if_pos e5]
      have hl := hlen (by rcases e5 with h | h <;> (have h' : kn = _ := Int.ofNat_inj.1 h; rw [h']; decide))
      have hla : (formE kn).args = 1 := by rcases e5 with h | h <;> (have h' : kn = _ := Int.ofNat_inj.1 h; rw [h']; rfl)
      rw [hla] at hl
      match hx : x.args, hl with
      | [y], _ =>
        have := hsub' y (by rw [hx]; simp)
        have hw := wiB_len (rkE y.kind) (rkE kn) (txE y)
        have hg := sgE_len kn hk2
        rw [hx, szL, szL] at hsz
        simp only [List.map_cons, List.map_nil, List.getD_cons_zero, List.length_append]; omega
      | [], hl => simp at hl
      | _ :: _ :: _, hl => simp at hl; omega
    rw [if_neg e5]
    by_cases e6 : (kn : Int) = 20
    · rw [if_pos e6]; obtain rfl : kn = 20 := by omega
      have hl := hlen (by decide)
      match hx : x.args, hl with
      | [y, z, u], _ =>
        have a1 := hsub' y (by rw [hx]; simp)
        have a2 := hsub' z (by rw [hx]; simp)
        have a3 := hsub' u (by rw [hx]; simp)
        have hw := wiB_len (rkE y.kind) (rkE ((20 : Nat) : Int) + 1) (txE y)
        rw [hx, szL, szL, szL, szL] at hsz
        simp only [List.map_cons, List.map_nil, List.getD_cons_zero, List.getD_cons_succ, List.length_append, List.length_cons, List.length_nil]; omega
      | [], hl => simp [formE] at hl
      | [_], hl => simp [formE] at hl
      | [_, _], hl => simp [formE] at hl
      | _ :: _ :: _ :: _ :: _, hl => simp [formE] at hl; omega
    · rw [if_neg e6]
      have hla : (formE kn).args = 2 := by
        exact args_two kn (by omega) (by omega) (by omega)
      have hl := hlen (by rw [hla]; decide)
      rw [hla] at hl
      match hx : x.args, hl with
      | [y, z], _ =>
        have a1 := hsub' y (by rw [hx]; simp)
        have a2 := hsub' z (by rw [hx]; simp)
        have hw := wiB_len (rkE y.kind) (rkE kn) (txE y)
        have hw2 := wiB_len (rkE z.kind) (rkE kn + 1) (txE z)
        have hg := sgE_len kn hk2
        rw [hx, szL, szL, szL] at hsz
        simp only [List.map_cons, List.map_nil, List.getD_cons_zero, List.getD_cons_succ, List.length_append, List.length_cons, List.length_nil]; omega
      | [], hl => simp at hl
      | [_], hl => simp at hl
      | _ :: _ :: _ :: _, hl => simp at hl; omega
end Go.Proofs.YtbpemackmadhgaaGreatDoor

/- within and expr: an expression's text. -/
namespace Go.Proofs.YtbpemackmadhgaaGreatDoor
open Go.RowKit Go.Sort

set_option maxRecDepth 100000 in
set_option maxHeartbeats 4000000 in
theorem eachExpr_any (l : List Ex) (a : Option Addr) (c : Nat) (w : World) (hm : l.length ≤ 1000000) (hrow : RowIn w a 4 (l.map Ex.cells))
    (hf : ∀ x ∈ l, ∀ w', Below w.heap.size w w' → Calls Tryz.prog 88 #[x.val] w' fun e w'' => e = .returned (sB (txE x)) ∧ Below w'.heap.size w' w'') :
    Calls Tryz.prog 108 #[.slice a l.length c, .func (.func 88) #[] #[]] w fun e w' => ∃ v, e = .returned v ∧ Strs w' v (l.map fun x => ⟨(txE x).toArray⟩) ∧ Below w.heap.size w w' := by
  obtain ⟨i0, hi, hz0, hz1, hz2⟩ := info_parts Tryz.infoStr
  have HI : Hid (Tryz.prog.info? 9 = some i0) := hi
  have HR : Hid (RowIn w a 4 (l.map Ex.cells)) := hrow
  have HF : Hid (∀ x ∈ l, ∀ w', Below w.heap.size w w' → Calls Tryz.prog 88 #[x.val] w' fun e w'' => e = .returned (sB (txE x)) ∧ Below w'.heap.size w' w'') := hf
  clear hrow hf hi
  go_enter Tryz.func108, Tryz.ntmps108
  go_wp2_with fail
  go_loopw [5, 10] (fun t5 t10 wr => ∃ (j : Nat), j ≤ l.length ∧ t10 = .int .i64 j ∧ wr.ownsRow w.heap.size 9 1 t5 j (((l.take j).map fun x => (⟨(txE x).toArray⟩ : ByteArray)).map Value.string) ∧ Below w.heap.size w wr) (fun _ t10 _ => l.length - (intOf t10).toNat)
  case atStart => exact ⟨0, Nat.zero_le _, rfl, World.ownsRow_nil _ _ _ _, Below.refl _ w⟩
  case round =>
    obtain ⟨j, hj, rfl, hown, hb⟩ := hrel
    obtain ⟨va, vc, rfl⟩ := owns_slice hown
    have HO : Hid (wr.ownsRow w.heap.size 9 1 (.slice va j vc) j (((l.take j).map fun x => (⟨(txE x).toArray⟩ : ByteArray)).map Value.string)) := hown
    clear hown
    have hws := hb.size
    by_cases hlt : j < l.length
    · obtain ⟨b, o, rfl, c0, c1, c2, c3⟩ := row_at (HR.out.below hb) hlt
      have hli : (j : Int) < (l.length : Int) := by omega
      have HT := map_take (fun x => (⟨(txE x).toArray⟩ : ByteArray)) l j hlt
      have HM : Hid (l[j] ∈ l) := List.getElem_mem hlt
      have HT' : Hid (((l.take (j + 1)).map fun x => (⟨(txE x).toArray⟩ : ByteArray)).map Value.string = ((l.take j).map fun x => (⟨(txE x).toArray⟩ : ByteArray)).map Value.string ++ [.string ⟨(txE l[j]).toArray⟩]) := HT
      clear HT
      generalize l[j] = x at *
      generalize ((l.take j).map fun x => (⟨(txE x).toArray⟩ : ByteArray)).map Value.string = pre at HO HT'
      have hb1 : Below w.heap.size w _ := (hb.alloc hws (.cells #[.int .i64 x.kind, .int .i64 x.n, .string x.name, .slice x.a x.args.length x.cap] 36))
      have hs1 := hb1.size
      go_wp2_with fail
      refine (HF.out x HM.out _ hb1).mono ?_
      rintro e w1 ⟨rfl, hbf⟩
      have hb2 : Below w.heap.size w w1 := hb1.trans (hbf.mono hs1)
      have hs2 := hb2.size
      have HO1 : Hid (w1.ownsRow w.heap.size 9 1 (.slice va j vc) j pre) := owns_stay (HO.out.alloc _) hbf
      clear c0 c1 c2 c3 hbf
      go_wp2_with (at_builtin; refine wpList_append_own _ rfl _ _ 81 rfl w.heap.size 9 i0 (.string ⟨#[]⟩) 1 16 Tryz.underlying81 HI.out hz0 hz1 hz2 rfl (by decide) _ _ _ rfl (HO1.out.alloc _) ⟨w1.heap.size, 0, none⟩ 1 1 [sB (txE x)] rfl rfl (new_cell _ _ _) ?c2 ?c3 ?c4 ?c5 ?_)
      case c2 => intro u hu; simp at hu; subst hu; rfl
      case c3 => unfold maxLen; omega
      case c4 => omega
      case c5 => simp; omega
      intro v' w2 hown' hgrow _
      obtain ⟨g', cap', rfl⟩ := owns_succ hown'
      have HO' : Hid (w2.ownsRow w.heap.size 9 1 (.slice (some ⟨g', 0, none⟩) (j + 1) cap') (j + 1) (pre ++ [sB (txE x)])) := hown'
      clear hown'
      go_wp2_with fail
      go_roundw
      case rel =>
        refine ⟨j + 1, by omega, by go_num, ?_, ?_⟩
        · rw [HT'.out]; exact HO'.out
        · exact (hb2.alloc hs2 _).grown hgrow (by simp; omega) (fun k hk => (HO1.out.lt k hk).1)
      case measure => simp [intOf]; omega
    · obtain rfl : j = l.length := by omega
      go_wp2_with fail
      go_ret
      refine ⟨_, rfl, strs_own (B := w.heap.size) ?_, hb⟩
      have := HO.out
      rw [List.take_length] at this
      simpa using this

abbrev ExprOk (k : Nat) : Prop := ∀ (x : Ex) (w : World), x.sz ≤ k → x.In w → Tabs w → NumT w → OkE x → x.sz ≤ 1000000 → Calls Tryz.prog 88 #[x.val] w fun e w' => e = .returned (sB (txE x)) ∧ Below w.heap.size w w'

set_option maxRecDepth 100000 in
set_option maxHeartbeats 4000000 in
theorem within_step (k : Nat) (h1 : ExprOk k) (x : Ex) (least : Int) (w : World) (hk : x.sz ≤ k) (hin : x.In w) (ht : Tabs w) (hnt : NumT w) (hok : OkE x) (hsz : x.sz ≤ 1000000) :
    Calls Tryz.prog 109 #[x.val, .int .i64 least] w fun e w' => e = .returned (sB (wiB (rkE x.kind) least (txE x))) ∧ Below w.heap.size w w' := by
  have hlen := txE_len (w := w) _ x (Nat.le_refl _) hin hok
  obtain ⟨kn, hkn, hk1, hk2, _⟩ := selfE_zero hok.parts.1
  have HE : Hid (∀ w', Below w.heap.size w w' → Calls Tryz.prog 88 #[x.val] w' fun e w'' => e = .returned (sB (txE x)) ∧ Below w'.heap.size w' w'') := fun w' hb => h1 x w' hk (hin.stay hb) (ht.stay hb) (hnt.stay hb) hok hsz
  have t2 := (ht.2 kn (by omega)).2.2.1
  have h1w : 1 < w.heap.size := lt_of_cell t2
  have HR : Hid (rkE x.kind = (formE kn).rank) := by show _ = _; unfold rkE; rw [hkn, Int.toNat_natCast]
  rw [HR.out]
  clear h1 hin ht hnt hok HR
  generalize (formE kn).rank = rk at t2 ⊢
  generalize txE x = tx at HE hlen ⊢
  have hb0 := (Below.refl _ w).alloc (Nat.le_refl _) (.cells #[.int .i64 x.kind, .int .i64 x.n, .string x.name, .slice x.a x.args.length x.cap] 36)
  unfold Ex.val at HE ⊢
  rw [hkn] at HE hb0 ⊢
  by_cases hr : rk < least
  · have HW : Hid (wiB rk least tx = cat [⟨#[40]⟩, ⟨tx.toArray⟩, ⟨#[41]⟩]) := by show _ = _; simp [wiB, hr, cat]
    have HLEN : Hid ((cat [⟨#[40]⟩, ⟨tx.toArray⟩, ⟨#[41]⟩]).length ≤ 140737488355328) := by show _ ≤ _; simp [cat]; omega
    go_enter Tryz.func109, Tryz.ntmps109
    go_wp2_with fail
    refine (HE.out _ hb0).mono ?_
    rintro e w1 ⟨rfl, hb1⟩
    have hb2 := Below.on hb0 hb1
    go_wp2_with fail
    refine (join_new [⟨#[40]⟩, ⟨tx.toArray⟩, ⟨#[41]⟩] w1 (Nat.le_of_ble_eq_true rfl) HLEN.out).mono ?_
    rintro e w2 ⟨rfl, hb3⟩
    go_wp2_with fail
    go_ret
    exact ⟨ret_str HW.out.symm, Below.on (Below.one hb2 _) hb3⟩
  · have HW : Hid (wiB rk least tx = tx) := by show _ = _; simp [wiB, hr]
    go_enter Tryz.func109, Tryz.ntmps109
    go_wp2_with fail
    refine (HE.out _ hb0).mono ?_
    rintro e w1 ⟨rfl, hb1⟩
    go_wp2_with fail
    go_ret
    exact ⟨ret_str HW.out.symm, Below.on hb0 hb1⟩
end Go.Proofs.YtbpemackmadhgaaGreatDoor

/- expr: the text of an expression that has a form. -/
namespace Go.Proofs.YtbpemackmadhgaaGreatDoor
open Go.RowKit Go.Sort

abbrev WithinOk (k : Nat) : Prop := ∀ (x : Ex) (least : Int) (w : World), x.sz ≤ k → x.In w → Tabs w → NumT w → OkE x → x.sz ≤ 1000000 → Calls Tryz.prog 109 #[x.val, .int .i64 least] w fun e w' => e = .returned (sB (wiB (rkE x.kind) least (txE x))) ∧ Below w.heap.size w w'
theorem seen_list {W0 : World} {b o sz i : Nat} {cs : List Value} (h : ∀ j v, cs[j]? = some v → W0.cell? ⟨b, o + (i * sz + j), none⟩ = some v) (j : Nat) (v : Value) (hj : cs[j]? = some v) : ∀ w', Below W0.heap.size W0 w' → w'.cell? ⟨b, o + (i * sz + j), none⟩ = some v := seen (h j v hj)
/-- The world behind both boxes. -/
def exW (kn n : Int) (s : ByteArray) (sl : Value) (fm : Form) (w : World) : World := (w.alloc (.cells #[.int .i64 kn, .int .i64 n, .string s, sl] 36)).alloc (.cells #[.int .i64 fm.fields, .int .i64 fm.args, .int .i64 fm.rank, .string fm.sign] 135)
theorem exW_facts (kn n : Int) (s : ByteArray) (sl : Value) (fm : Form) (w : World) : Below w.heap.size w (exW kn n s sl fm w) ∧ (exW kn n s sl fm w).cell? ⟨w.heap.size, 0, none⟩ = some (.int .i64 kn) ∧ (exW kn n s sl fm w).cell? ⟨w.heap.size, 1, none⟩ = some (.int .i64 n) ∧ (exW kn n s sl fm w).cell? ⟨w.heap.size, 2, none⟩ = some (.string s) ∧ (exW kn n s sl fm w).cell? ⟨w.heap.size, 3, none⟩ = some sl ∧ (exW kn n s sl fm w).cell? ⟨w.heap.size + 1, 2, none⟩ = some (.int .i64 fm.rank) ∧ (exW kn n s sl fm w).cell? ⟨w.heap.size + 1, 3, none⟩ = some (.string fm.sign) := by
  unfold exW
  have h1 : ∀ j, ((w.alloc (.cells #[.int .i64 kn, .int .i64 n, .string s, sl] 36)).alloc (.cells #[.int .i64 fm.fields, .int .i64 fm.args, .int .i64 fm.rank, .string fm.sign] 135)).cell? ⟨w.heap.size, j, none⟩ = (#[.int .i64 kn, .int .i64 n, .string s, sl] : Array Value)[j]? := fun j => by
    rw [World.cell?_alloc_past _ _ _ (by simp), World.cell?_alloc_at _ _ _ _ rfl]
  have h2 : ∀ j, ((w.alloc (.cells #[.int .i64 kn, .int .i64 n, .string s, sl] 36)).alloc (.cells #[.int .i64 fm.fields, .int .i64 fm.args, .int .i64 fm.rank, .string fm.sign] 135)).cell? ⟨w.heap.size + 1, j, none⟩ = (#[.int .i64 fm.fields, .int .i64 fm.args, .int .i64 fm.rank, .string fm.sign] : Array Value)[j]? := fun j => by
    rw [World.cell?_alloc_at _ _ _ _ (by simp)]
  exact ⟨((Below.refl _ w).alloc (Nat.le_refl _) _).alloc (by simp) _, h1 0, h1 1, h1 2, h1 3, h2 2, h2 3⟩

theorem row_0 {W : World} {a : Option Addr} {y : Ex} {r : List Ex} (h : RowIn W a 4 ((y :: r).map Ex.cells)) : ∃ b o, a = some ⟨b, o, none⟩ ∧ W.cell? ⟨b, o, none⟩ = some (.int .i64 y.kind) ∧ W.cell? ⟨b, o + 1, none⟩ = some (.int .i64 y.n) ∧ W.cell? ⟨b, o + 2, none⟩ = some (.string y.name) ∧ W.cell? ⟨b, o + 3, none⟩ = some (.slice y.a y.args.length y.cap) := by
  obtain ⟨b, o, e, hc⟩ := h 0 y.cells rfl
  exact ⟨b, o, e, hc 0 _ rfl, hc 1 _ rfl, hc 2 _ rfl, hc 3 _ rfl⟩
theorem row_1 {W : World} {a : Option Addr} {x y : Ex} {r : List Ex} (h : RowIn W a 4 ((x :: y :: r).map Ex.cells)) : ∃ b o, a = some ⟨b, o, none⟩ ∧ W.cell? ⟨b, o + 4, none⟩ = some (.int .i64 y.kind) ∧ W.cell? ⟨b, o + 5, none⟩ = some (.int .i64 y.n) ∧ W.cell? ⟨b, o + 6, none⟩ = some (.string y.name) ∧ W.cell? ⟨b, o + 7, none⟩ = some (.slice y.a y.args.length y.cap) := by
  obtain ⟨b, o, e, hc⟩ := h 1 y.cells rfl
  exact ⟨b, o, e, hc 0 _ rfl, hc 1 _ rfl, hc 2 _ rfl, hc 3 _ rfl⟩
theorem row_2 {W : World} {a : Option Addr} {x z y : Ex} {r : List Ex} (h : RowIn W a 4 ((x :: z :: y :: r).map Ex.cells)) : ∃ b o, a = some ⟨b, o, none⟩ ∧ W.cell? ⟨b, o + 8, none⟩ = some (.int .i64 y.kind) ∧ W.cell? ⟨b, o + 9, none⟩ = some (.int .i64 y.n) ∧ W.cell? ⟨b, o + 10, none⟩ = some (.string y.name) ∧ W.cell? ⟨b, o + 11, none⟩ = some (.slice y.a y.args.length y.cap) := by
  obtain ⟨b, o, e, hc⟩ := h 2 y.cells rfl
  exact ⟨b, o, e, hc 0 _ rfl, hc 1 _ rfl, hc 2 _ rfl, hc 3 _ rfl⟩
theorem rank_bd (k : Nat) (h : k < 21) : 0 ≤ (formE k).rank ∧ (formE k).rank ≤ 9 := by
  have : ∀ k, k < 21 → 0 ≤ (formE k).rank ∧ (formE k).rank ≤ 9 := by decide
  exact this k h
theorem tx3 (n : Int) (s : ByteArray) (a : Option Addr) (c : Nat) (y : Ex) : cat [s, ⟨#[91]⟩, ⟨(txE y).toArray⟩, ⟨#[93]⟩] = txE (Ex.mk 3 n s a c [y]) := by
  rw [txE_eq (Ex.mk 3 n s a c [y])]; show _ = txOf 3 n s [y.kind] [txE y]
  rw [txOf, if_neg (by decide), if_neg (by decide), if_pos rfl]; simp [cat]
theorem tx4 (n : Int) (s : ByteArray) (a : Option Addr) (c : Nat) (l : List Ex) : cat [s, ⟨#[40]⟩, ⟨(comB (l.map txE)).toArray⟩, ⟨#[41]⟩] = txE (Ex.mk 4 n s a c l) := by
  rw [txE_eq (Ex.mk 4 n s a c l)]; show _ = txOf 4 n s (l.map Ex.kind) (l.map txE)
  rw [txOf, if_neg (by decide), if_neg (by decide), if_neg (by decide), if_pos rfl]; simp [cat]
theorem tx56 (k n : Int) (hk : k = 5 ∨ k = 6) (s : ByteArray) (a : Option Addr) (c : Nat) (y : Ex) : cat [⟨(sgE k).toArray⟩, ⟨(wiB (rkE y.kind) (rkE k) (txE y)).toArray⟩] = txE (Ex.mk k n s a c [y]) := by
  rw [txE_eq (Ex.mk k n s a c [y])]; show _ = txOf k n s [y.kind] [txE y]
  rw [txOf, if_neg (by omega), if_neg (by omega), if_neg (by omega), if_neg (by omega), if_pos hk]; simp [cat]
theorem tx20 (n : Int) (s : ByteArray) (a : Option Addr) (c : Nat) (x y z : Ex) : cat [⟨(wiB (rkE x.kind) (rkE 20 + 1) (txE x)).toArray⟩, ⟨#[32, 63, 32]⟩, ⟨(txE y).toArray⟩, ⟨#[32, 58, 32]⟩, ⟨(txE z).toArray⟩] = txE (Ex.mk 20 n s a c [x, y, z]) := by
  rw [txE_eq (Ex.mk 20 n s a c [x, y, z])]; show _ = txOf 20 n s [x.kind, y.kind, z.kind] [txE x, txE y, txE z]
  rw [txOf, if_neg (by decide), if_neg (by decide), if_neg (by decide), if_neg (by decide), if_neg (by decide), if_pos rfl]; simp [cat]
theorem tx2 (k n : Int) (hk : 7 ≤ k) (hk' : k ≤ 19) (s : ByteArray) (a : Option Addr) (c : Nat) (x y : Ex) : cat [⟨(wiB (rkE x.kind) (rkE k) (txE x)).toArray⟩, ⟨#[32]⟩, ⟨(sgE k).toArray⟩, ⟨#[32]⟩, ⟨(wiB (rkE y.kind) (rkE k + 1) (txE y)).toArray⟩] = txE (Ex.mk k n s a c [x, y]) := by
  rw [txE_eq (Ex.mk k n s a c [x, y])]; show _ = txOf k n s [x.kind, y.kind] [txE x, txE y]
  rw [txOf, if_neg (by omega), if_neg (by omega), if_neg (by omega), if_neg (by omega), if_neg (by omega), if_neg (by omega)]; simp [cat]

set_option maxRecDepth 100000 in
set_option maxHeartbeats 8000000 in
theorem expr3 (k : Nat) (h1 : ExprOk k) (n : Int) (s : ByteArray) (a : Option Addr) (c : Nat) (y : Ex) (w : World) (hk : (Ex.mk 3 n s a c [y]).sz ≤ k + 1) (hin : (Ex.mk 3 n s a c [y]).In w) (ht : Tabs w) (hnt : NumT w) (hok : OkE (Ex.mk 3 n s a c [y])) (hsz : (Ex.mk 3 n s a c [y]).sz ≤ 1000000) :
    Calls Tryz.prog 88 #[(Ex.mk 3 n s a c [y]).val] w fun e w' => e = .returned (sB (txE (Ex.mk 3 n s a c [y]))) ∧ Below w.heap.size w w' := by
  have hlen := txE_len (w := w) _ _ (Nat.le_refl _) hin hok
  have hz := (Ex.mk 3 n s a c [y]).sz_args
  simp only [Ex.args, szL] at hz
  have hin' := Ex.in_iff.1 hin
  simp only [Ex.kind, Ex.n, Ex.name, Ex.a, Ex.cap, Ex.args] at hin'
  obtain ⟨_, _, _, _, _, _, hrow, hsub⟩ := hin'
  have hoks := hok.parts.2
  simp only [Ex.args] at hoks
  have HC : Hid (cat [s, ⟨#[91]⟩, ⟨(txE y).toArray⟩, ⟨#[93]⟩] = txE (Ex.mk 3 n s a c [y])) := tx3 n s a c y
  have HLEN : Hid ((cat [s, ⟨#[91]⟩, ⟨(txE y).toArray⟩, ⟨#[93]⟩]).length ≤ 140737488355328) := by show _ ≤ _; rw [HC.out]; omega
  have HY : Hid (∀ w', Below w.heap.size w w' → Calls Tryz.prog 88 #[.agg #[.int .i64 y.kind, .int .i64 y.n, .string y.name, .slice y.a y.args.length y.cap]] w' fun e w'' => e = .returned (sB (txE y)) ∧ Below w'.heap.size w' w'') := fun w' hb => h1 y w' (by omega) ((hsub y (by simp)).stay hb) (ht.stay hb) (hnt.stay hb) (hoks y (by simp)) (by omega)
  obtain ⟨t0, t1, t2, t3⟩ := ht.2 3 (by omega)
  have h1w : 1 < w.heap.size := lt_of_cell t0
  obtain ⟨b, o, rfl, c0, c1, c2, c3⟩ := row_0 hrow
  clear h1 hin ht hnt hok hrow hsub hoks
  unfold Ex.val
  simp only [Ex.kind, Ex.n, Ex.name, Ex.a, Ex.cap, Ex.args]
  go_enter Tryz.func88, Tryz.ntmps88
  go_wp2_with fail
  obtain ⟨hb0, x0, x1, x2, x3, f2, f3⟩ := exW_facts 3 n s (.slice (some ⟨b, o, none⟩) 1 c) (formE 3) w
  obtain ⟨W0, hW0⟩ : ∃ W0, exW 3 n s (.slice (some ⟨b, o, none⟩) 1 c) (formE 3) w = W0 := ⟨_, rfl⟩
  rw [hW0] at hb0 x0 x1 x2 x3 f2 f3
  unfold exW at hW0
  rw [hW0]
  have HB0 : Hid (Below w.heap.size w W0) := hb0
  have c0 := seen ((hb0.cell (lt_of_cell c0)).trans c0)
  have c1 := seen ((hb0.cell (lt_of_cell c1)).trans c1)
  have c2 := seen ((hb0.cell (lt_of_cell c2)).trans c2)
  have c3 := seen ((hb0.cell (lt_of_cell c3)).trans c3)
  have x2 := seen x2
  have x3 := seen x3
  have f2 := seen f2
  have f3 := seen f3
  clear hW0 hb0 x0 x1 t0 t1 t2 t3 h1w hk hsz hlen hz
  go_region_held3 (fun w' => Below W0.heap.size W0 w') (first | exact Below.drew (Below.refl _ _) | exact Below.on (by assumption) (by assumption) | exact Below.one (by assumption) _)
    (first
      | (go_at_call 88; (first | (refine (HY.out _ (Below.on HB0.out (by assumption))).mono ?_)); rintro e w' ⟨rfl, hb⟩)
      | (go_at_call 61; refine (join_new [s, ⟨#[91]⟩, ⟨(txE y).toArray⟩, ⟨#[93]⟩] _ (Nat.le_of_ble_eq_true rfl) HLEN.out).mono ?_; rintro e w' ⟨rfl, hb⟩))
  all_goals go_wp2_with fail
  all_goals go_ret
  all_goals exact ⟨ret_str HC.out, Below.on HB0.out (by assumption)⟩

set_option maxRecDepth 100000 in
set_option maxHeartbeats 8000000 in
theorem expr5 (k : Nat) (h2 : WithinOk k) (n : Int) (s : ByteArray) (a : Option Addr) (c : Nat) (y : Ex) (w : World) (hk : (Ex.mk 5 n s a c [y]).sz ≤ k + 1) (hin : (Ex.mk 5 n s a c [y]).In w) (ht : Tabs w) (hnt : NumT w) (hok : OkE (Ex.mk 5 n s a c [y])) (hsz : (Ex.mk 5 n s a c [y]).sz ≤ 1000000) :
    Calls Tryz.prog 88 #[(Ex.mk 5 n s a c [y]).val] w fun e w' => e = .returned (sB (txE (Ex.mk 5 n s a c [y]))) ∧ Below w.heap.size w w' := by
  have hlen := txE_len (w := w) _ _ (Nat.le_refl _) hin hok
  have hz := (Ex.mk 5 n s a c [y]).sz_args
  simp only [Ex.args, szL] at hz
  have hin' := Ex.in_iff.1 hin
  simp only [Ex.kind, Ex.n, Ex.name, Ex.a, Ex.cap, Ex.args] at hin'
  obtain ⟨_, _, _, _, _, _, hrow, hsub⟩ := hin'
  have hoks := hok.parts.2
  simp only [Ex.args] at hoks
  have HC : Hid (cat [(formE 5).sign, ⟨(wiB (rkE y.kind) (formE 5).rank (txE y)).toArray⟩] = txE (Ex.mk 5 n s a c [y])) := tx56 5 n (.inl rfl) s a c y
  have HLEN : Hid ((cat [(formE 5).sign, ⟨(wiB (rkE y.kind) (formE 5).rank (txE y)).toArray⟩]).length ≤ 140737488355328) := by show _ ≤ _; rw [HC.out]; omega
  have HY : Hid (∀ w', Below w.heap.size w w' → Calls Tryz.prog 109 #[.agg #[.int .i64 y.kind, .int .i64 y.n, .string y.name, .slice y.a y.args.length y.cap], .int .i64 (formE 5).rank] w' fun e w'' => e = .returned (sB (wiB (rkE y.kind) (formE 5).rank (txE y))) ∧ Below w'.heap.size w' w'') := fun w' hb => h2 y ((formE 5).rank) w' (by omega) ((hsub y (by simp)).stay hb) (ht.stay hb) (hnt.stay hb) (hoks y (by simp)) (by omega)
  obtain ⟨t0, t1, t2, t3⟩ := ht.2 5 (by omega)
  have h1w : 1 < w.heap.size := lt_of_cell t0
  obtain ⟨b, o, rfl, c0, c1, c2, c3⟩ := row_0 hrow
  clear h2 hin ht hnt hok hrow hsub hoks
  unfold Ex.val
  simp only [Ex.kind, Ex.n, Ex.name, Ex.a, Ex.cap, Ex.args]
  go_enter Tryz.func88, Tryz.ntmps88
  go_wp2_with fail
  obtain ⟨hb0, x0, x1, x2, x3, f2, f3⟩ := exW_facts 5 n s (.slice (some ⟨b, o, none⟩) 1 c) (formE 5) w
  obtain ⟨W0, hW0⟩ : ∃ W0, exW 5 n s (.slice (some ⟨b, o, none⟩) 1 c) (formE 5) w = W0 := ⟨_, rfl⟩
  rw [hW0] at hb0 x0 x1 x2 x3 f2 f3
  unfold exW at hW0
  rw [hW0]
  have HB0 : Hid (Below w.heap.size w W0) := hb0
  have c0 := seen ((hb0.cell (lt_of_cell c0)).trans c0)
  have c1 := seen ((hb0.cell (lt_of_cell c1)).trans c1)
  have c2 := seen ((hb0.cell (lt_of_cell c2)).trans c2)
  have c3 := seen ((hb0.cell (lt_of_cell c3)).trans c3)
  have x2 := seen x2
  have x3 := seen x3
  have f2 := seen f2
  have f3 := seen f3
  clear hW0 hb0 x0 x1 t0 t1 t2 t3 h1w hk hsz hlen hz
  go_region_held3 (fun w' => Below W0.heap.size W0 w') (first | exact Below.drew (Below.refl _ _) | exact Below.on (by assumption) (by assumption) | exact Below.one (by assumption) _)
    (first
      | (go_at_call 109; (first | (refine (HY.out _ (Below.on HB0.out (by assumption))).mono ?_)); rintro e w' ⟨rfl, hb⟩)
      | (go_at_call 61; refine (join_new [(formE 5).sign, ⟨(wiB (rkE y.kind) (formE 5).rank (txE y)).toArray⟩] _ (Nat.le_of_ble_eq_true rfl) HLEN.out).mono ?_; rintro e w' ⟨rfl, hb⟩))
  all_goals go_wp2_with fail
  all_goals go_ret
  all_goals exact ⟨ret_str HC.out, Below.on HB0.out (by assumption)⟩

set_option maxRecDepth 100000 in
set_option maxHeartbeats 8000000 in
theorem expr6 (k : Nat) (h2 : WithinOk k) (n : Int) (s : ByteArray) (a : Option Addr) (c : Nat) (y : Ex) (w : World) (hk : (Ex.mk 6 n s a c [y]).sz ≤ k + 1) (hin : (Ex.mk 6 n s a c [y]).In w) (ht : Tabs w) (hnt : NumT w) (hok : OkE (Ex.mk 6 n s a c [y])) (hsz : (Ex.mk 6 n s a c [y]).sz ≤ 1000000) :
    Calls Tryz.prog 88 #[(Ex.mk 6 n s a c [y]).val] w fun e w' => e = .returned (sB (txE (Ex.mk 6 n s a c [y]))) ∧ Below w.heap.size w w' := by
  have hlen := txE_len (w := w) _ _ (Nat.le_refl _) hin hok
  have hz := (Ex.mk 6 n s a c [y]).sz_args
  simp only [Ex.args, szL] at hz
  have hin' := Ex.in_iff.1 hin
  simp only [Ex.kind, Ex.n, Ex.name, Ex.a, Ex.cap, Ex.args] at hin'
  obtain ⟨_, _, _, _, _, _, hrow, hsub⟩ := hin'
  have hoks := hok.parts.2
  simp only [Ex.args] at hoks
  have HC : Hid (cat [(formE 6).sign, ⟨(wiB (rkE y.kind) (formE 6).rank (txE y)).toArray⟩] = txE (Ex.mk 6 n s a c [y])) := tx56 6 n (.inr rfl) s a c y
  have HLEN : Hid ((cat [(formE 6).sign, ⟨(wiB (rkE y.kind) (formE 6).rank (txE y)).toArray⟩]).length ≤ 140737488355328) := by show _ ≤ _; rw [HC.out]; omega
  have HY : Hid (∀ w', Below w.heap.size w w' → Calls Tryz.prog 109 #[.agg #[.int .i64 y.kind, .int .i64 y.n, .string y.name, .slice y.a y.args.length y.cap], .int .i64 (formE 6).rank] w' fun e w'' => e = .returned (sB (wiB (rkE y.kind) (formE 6).rank (txE y))) ∧ Below w'.heap.size w' w'') := fun w' hb => h2 y ((formE 6).rank) w' (by omega) ((hsub y (by simp)).stay hb) (ht.stay hb) (hnt.stay hb) (hoks y (by simp)) (by omega)
  obtain ⟨t0, t1, t2, t3⟩ := ht.2 6 (by omega)
  have h1w : 1 < w.heap.size := lt_of_cell t0
  obtain ⟨b, o, rfl, c0, c1, c2, c3⟩ := row_0 hrow
  clear h2 hin ht hnt hok hrow hsub hoks
  unfold Ex.val
  simp only [Ex.kind, Ex.n, Ex.name, Ex.a, Ex.cap, Ex.args]
  go_enter Tryz.func88, Tryz.ntmps88
  go_wp2_with fail
  obtain ⟨hb0, x0, x1, x2, x3, f2, f3⟩ := exW_facts 6 n s (.slice (some ⟨b, o, none⟩) 1 c) (formE 6) w
  obtain ⟨W0, hW0⟩ : ∃ W0, exW 6 n s (.slice (some ⟨b, o, none⟩) 1 c) (formE 6) w = W0 := ⟨_, rfl⟩
  rw [hW0] at hb0 x0 x1 x2 x3 f2 f3
  unfold exW at hW0
  rw [hW0]
  have HB0 : Hid (Below w.heap.size w W0) := hb0
  have c0 := seen ((hb0.cell (lt_of_cell c0)).trans c0)
  have c1 := seen ((hb0.cell (lt_of_cell c1)).trans c1)
  have c2 := seen ((hb0.cell (lt_of_cell c2)).trans c2)
  have c3 := seen ((hb0.cell (lt_of_cell c3)).trans c3)
  have x2 := seen x2
  have x3 := seen x3
  have f2 := seen f2
  have f3 := seen f3
  clear hW0 hb0 x0 x1 t0 t1 t2 t3 h1w hk hsz hlen hz
  go_region_held3 (fun w' => Below W0.heap.size W0 w') (first | exact Below.drew (Below.refl _ _) | exact Below.on (by assumption) (by assumption) | exact Below.one (by assumption) _)
    (first
      | (go_at_call 109; (first | (refine (HY.out _ (Below.on HB0.out (by assumption))).mono ?_)); rintro e w' ⟨rfl, hb⟩)
      | (go_at_call 61; refine (join_new [(formE 6).sign, ⟨(wiB (rkE y.kind) (formE 6).rank (txE y)).toArray⟩] _ (Nat.le_of_ble_eq_true rfl) HLEN.out).mono ?_; rintro e w' ⟨rfl, hb⟩))
  all_goals go_wp2_with fail
  all_goals go_ret
  all_goals exact ⟨ret_str HC.out, Below.on HB0.out (by assumption)⟩
end Go.Proofs.YtbpemackmadhgaaGreatDoor
