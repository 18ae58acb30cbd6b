/- The document's own count of statements: what it answers. -/
import Derived.Test.YtkkcgkpbbngloaaGreatDoorPart9
import Derived.Test.YtkkcgkpbbngloaaGreatDoorPart4
import Derived.Deep.CutBlock
import Derived.Test.YtkkcgkpbbngloaaGreatDoorPart6
import Derived.Laws.MakeOwn
import Derived.Shelf.Sort.Plain
import Derived.Ground.Names2Prog
import Derived.Shelf.Slices.CompactI
import Derived.Shelf.Slices.In.SortNone
import Derived.Test.YtkkcgkpbbngloaaGreatDoorProg
import Derived.Sort.OwnSortedInts
import Derived.Lib.OwnBridge
namespace Go.Proofs.YtkkcgkpbbngloaaGreatDoor
open Go.RowKit

set_option maxRecDepth 100000 in
set_option maxHeartbeats 16000000 in
theorem rstmts_k (k : Nat) : ∀ (l : List St) (a : Option Addr) (c : Nat) (left : Int) (w : World), ssz l ≤ k → Have w a c l → -8 ≤ left → left ≤ 4611686018427387904 →
    Calls Tryz.prog 53 #[.slice a l.length c, .int .i64 left] w fun e w' => e = .returned (.int .i64 (rSs l left 0)) ∧ Below w.heap.size w w' := by
  induction k with
  | zero =>
    intro l a c left w hk hin h0 h1
    obtain rfl : l = [] := by
      cases l with
      | nil => rfl
      | cons x r => rw [ssz] at hk; have := x.sz_eq; omega
    rw [rSs]
    show Calls Tryz.prog 53 #[.slice a 0 c, .int .i64 left] w _
    go_enter Tryz.func53, Tryz.ntmps53
    go_wp2_with fail
    go_loopw [5, 6] (fun t5 t6 wr => t5 = .int .i64 0 ∧ t6 = .int .i64 0 ∧ wr = w) (fun _ _ _ => 0)
    case atStart => exact ⟨rfl, rfl, rfl⟩
    case round =>
      obtain ⟨rfl, rfl, rfl⟩ := hrel
      go_wp2_with fail
      go_ret
      exact ⟨rfl, Below.refl _ _⟩
  | succ k ih =>
    intro l a c left w hk hin h0 h1
    obtain ⟨⟨hl, hc, _, hrow⟩, hsub⟩ := hin
    have IH : Hid (∀ (l : List St) (a : Option Addr) (c : Nat) (left : Int) (w : World), ssz l ≤ k → Have w a c l → -8 ≤ left → left ≤ 4611686018427387904 → Calls Tryz.prog 53 #[.slice a l.length c, .int .i64 left] w fun e w' => e = .returned (.int .i64 (rSs l left 0)) ∧ Below w.heap.size w w') := ih
    have HS : Hid (∀ x ∈ l, x.In w) := hsub
    have HR : Hid (RowIn w a 14 (List.map St.cells l)) := hrow
    have HK : Hid (ssz l ≤ k + 1) := hk
    clear ih hsub hrow hk
    go_enter Tryz.func53, Tryz.ntmps53
    go_wp2_with fail
    go_loopw [5, 6] (fun t5 t6 wr => ∃ (j : Nat) (m : Int), j ≤ l.length ∧ t5 = .int .i64 m ∧ t6 = .int .i64 j ∧ 0 ≤ m ∧ m ≤ max 0 (left + 3) ∧ rSs (l.drop j) left m = rSs l left 0 ∧ Below w.heap.size w wr) (fun _ t6 _ => l.length - (intOf t6).toNat)
    case atStart => exact ⟨0, 0, Nat.zero_le _, rfl, rfl, by omega, by omega, by simp, Below.refl _ w⟩
    case round =>
      obtain ⟨j, m, hj, rfl, rfl, hm0, hm1, hcnt, hb⟩ := hrel
      have HC : Hid (rSs (l.drop j) left m = rSs l left 0) := hcnt
      clear hcnt
      have hws := hb.size
      by_cases hlt : j < l.length
      · have hli : (j : Int) < (l.length : Int) := by omega
        have HD : Hid (rSs (l.drop j) left m = if m ≤ left then rSs (l.drop (j + 1)) left (rS l[j] left m) else m) := rSs_drop hlt
        by_cases hm : m ≤ left
        · obtain ⟨b, o, rfl, hcell⟩ := rowS_at (HR.out.below hb) hlt
          have c0 := hcell 0 _ rfl
          have c1 := hcell 1 _ rfl
          have c2 := hcell 2 _ rfl
          have c3 := hcell 3 _ rfl
          have c4 := hcell 4 _ rfl
          have c5 := hcell 5 _ rfl
          have c6 := hcell 6 _ rfl
          have c7 := hcell 7 _ rfl
          have c8 := hcell 8 _ rfl
          have c9 := hcell 9 _ rfl
          have c10 := hcell 10 _ rfl
          have c11 := hcell 11 _ rfl
          have c12 := hcell 12 _ rfl
          have c13 := hcell 13 _ rfl
          simp only [← Nat.add_assoc, Nat.add_zero] at c0 c1 c2 c3 c4 c5 c6 c7 c8 c9 c10 c11 c12 c13
          clear hcell
          have HI : Hid (l[j].In wr) := (HS.out _ (List.getElem_mem hlt)).stay hb
          have HZ : Hid (l[j].sz ≤ k + 1) := by
            have h1 := ssz_mem (List.getElem_mem hlt)
            have h3 := HK.out
            show l[j].sz ≤ k + 1
            omega
          rw [if_pos hm] at HD
          generalize l[j] = s at *
          have HZA : Hid (∀ w, Calls Tryz.prog 79 #[s.a.val] w fun e w' => e = .returned (.bool (zeroE s.a)) ∧ Below w.heap.size w w') := fun w => rzero_any s.a w
          have HZB : Hid (∀ w, Calls Tryz.prog 79 #[s.b.val] w fun e w' => e = .returned (.bool (zeroE s.b)) ∧ Below w.heap.size w w') := fun w => rzero_any s.b w
          unfold Ex.val at HZA HZB
          cases hza : zeroE s.a
          · cases hzb : zeroE s.b
            · have EQ : Hid (rS s left m = rB s.els left (rCs s.cases left (((m + 1) + (1 + rL s.a.args (left - (m + 1) - 1) 0)) + (1 + rL s.b.args (left - ((m + 1) + (1 + rL s.a.args (left - (m + 1) - 1) 0)) - 1) 0) + rSs s.body (left - (((m + 1) + (1 + rL s.a.args (left - (m + 1) - 1) 0)) + (1 + rL s.b.args (left - ((m + 1) + (1 + rL s.a.args (left - (m + 1) - 1) 0)) - 1) 0))) 0))) := by
                show _ = _; rw [rS_eq, rZ_f hza, rZ_f hzb]; rfl
              rw [hza] at HZA
              rw [hzb] at HZB
              go_wp2_with fail
              obtain ⟨W1, hW1⟩ : ∃ W1, wr.alloc (.cells #[.int .i64 s.kind, .string s.name, .int .i64 s.n, .int .i64 s.a.kind, .int .i64 s.a.n, .string s.a.name, .slice s.a.a s.a.args.length s.a.cap, .int .i64 s.b.kind, .int .i64 s.b.n, .string s.b.name, .slice s.b.a s.b.args.length s.b.cap, .slice s.ba s.body.length s.bc, .slice s.ea s.els.length s.ec, .slice s.ca s.cases.length s.cc] 44) = W1 := ⟨_, rfl⟩
              have BX : Hid (∀ (j : Nat) v, s.cells[j]? = some v → W1.cell? ⟨wr.heap.size, j, none⟩ = some v) := by
                show ∀ (j : Nat) v, _; intro j v h
                rw [← hW1, World.cell?_alloc_at _ _ _ _ rfl]; simpa [St.cells] using h
              have hb1 : Below w.heap.size w W1 := by rw [← hW1]; exact hb.alloc hws _
              have hbr : Below wr.heap.size wr W1 := by rw [← hW1]; exact (Below.refl _ wr).alloc (Nat.le_refl _) _
              have hs1 : wr.heap.size < W1.heap.size := by rw [← hW1]; simp
              rw [hW1]
              clear hW1 c0 c1 c2 c3 c4 c5 c6 c7 c8 c9 c10 c11 c12 c13
              have HI1 : Hid (s.In W1) := HI.out.stay hbr
              obtain ⟨Z, hZ⟩ : ∃ Z, wr.heap.size = Z := ⟨_, rfl⟩
              rw [hZ] at BX hs1 ⊢
              have CX : Hid (∀ w', Below W1.heap.size W1 w' → ∀ (j : Nat) v, s.cells[j]? = some v → w'.cell? ⟨Z, j, none⟩ = some v) := fun w' h j v e => (h.cell (p := ⟨Z, j, none⟩) hs1).trans (BX.out j v e)
              clear hbr hZ hb hws
              refine (HZA.out W1).mono ?_
              rintro e w2 ⟨rfl, hb2⟩
              have c6 := CX.out _ hb2 6 _ rfl
              go_wp2_with fail
              refine (rexprs_any s.a.args s.a.a s.a.cap (left - (m + 1) - 1) _ ((St.in_iff.1 (HI1.out.stay hb2)).2.2.2.1.have) (by omega) (by omega)).mono ?_
              have b1 := rL_bd s.a.args (left - (m + 1) - 1) 0
              generalize rL s.a.args (left - (m + 1) - 1) 0 = q1 at b1 EQ ⊢
              rintro e w3 ⟨rfl, hb3⟩
              have hb3' := hb2.trans (hb3.mono hb2.size)
              clear hb2 hb3 c6
              have c7 := CX.out _ hb3' 7 _ rfl
              have c8 := CX.out _ hb3' 8 _ rfl
              have c9 := CX.out _ hb3' 9 _ rfl
              have c10 := CX.out _ hb3' 10 _ rfl
              go_wp2_with fail
              refine (HZB.out _).mono ?_
              rintro e w4 ⟨rfl, hb4⟩
              have hb4' := hb3'.trans (hb4.mono hb3'.size)
              clear hb3' hb4 c7 c8 c9 c10
              have c10 := CX.out _ hb4' 10 _ rfl
              go_wp2_with fail
              refine (rexprs_any s.b.args s.b.a s.b.cap (left - ((m + 1) + (1 + q1)) - 1) _ ((St.in_iff.1 (HI1.out.stay hb4')).2.2.2.2.1.have) (by omega) (by omega)).mono ?_
              have b2 := rL_bd s.b.args (left - ((m + 1) + (1 + q1)) - 1) 0
              generalize rL s.b.args (left - ((m + 1) + (1 + q1)) - 1) 0 = q2 at b2 EQ ⊢
              rintro e w5 ⟨rfl, hb5⟩
              have hb5' := hb4'.trans (hb5.mono hb4'.size)
              clear hb4' hb5 c10
              have c11 := CX.out _ hb5' 11 _ rfl
              go_wp2_with fail
              refine (IH.out s.body s.ba s.bc (left - (((m + 1) + (1 + q1)) + (1 + q2))) _ (by have := s.sz_eq; have := HZ.out; omega) (St.in_iff.1 (HI1.out.stay hb5')).2.2.2.2.2.1 (by omega) (by omega)).mono ?_
              have b3 := rSs_bd s.body (left - (((m + 1) + (1 + q1)) + (1 + q2))) 0
              generalize rSs s.body (left - (((m + 1) + (1 + q1)) + (1 + q2))) 0 = q3 at b3 EQ ⊢
              rintro e w6 ⟨rfl, hb6⟩
              have hb6' := hb5'.trans (hb6.mono hb5'.size)
              clear hb5' hb6 c11
              obtain ⟨n4, hn4⟩ : ∃ n4, ((m + 1) + (1 + q1)) + (1 + q2) + q3 = n4 := ⟨_, rfl⟩
              have hn4b : 0 ≤ n4 ∧ n4 ≤ left + 3 := by omega
              rw [hn4] at EQ
              have HN4 := show Hid _ from hn4
              clear hn4
              go_wp2_with fail
              go_loopw [5, 8] (fun t5 t8 wq => ∃ (i : Nat) (p : Int), i ≤ s.cases.length ∧ t5 = .int .i64 p ∧ t8 = .int .i64 i ∧ 0 ≤ p ∧ p ≤ left + 3 ∧ rCs (s.cases.drop i) left p = rCs s.cases left n4 ∧ Below W1.heap.size W1 wq) (fun _ t8 _ => s.cases.length - (intOf t8).toNat)
              case atStart => exact ⟨0, n4, Nat.zero_le _, by have := HN4.out; go_num, rfl, hn4b.1, hn4b.2, by simp, hb6'⟩
              case round =>
                obtain ⟨i, p, hi, rfl, rfl, hp0, hp1, hpc, hbq⟩ := hrel
                have HPC : Hid (rCs (s.cases.drop i) left p = rCs s.cases left n4) := hpc
                clear hpc
                obtain ⟨hcl, hcc, _, hcr⟩ := (St.in_iff.1 (HI1.out.stay hbq)).2.2.2.2.2.2.2.1
                have HCR : Hid (RowIn wr s.ca 2 (s.cases.map Ca.cells)) := hcr
                clear hcr
                have c13 := CX.out _ hbq 13 _ rfl
                by_cases hilt : i < s.cases.length
                · have hili : (i : Int) < (s.cases.length : Int) := by omega
                  have HD2 : Hid (rCs (s.cases.drop i) left p = if p ≤ left then rCs (s.cases.drop (i + 1)) left (p + (1 + rC s.cases[i] (left - p - 1))) else p) := rCs_drop hilt
                  by_cases hpl : p ≤ left
                  · obtain ⟨b', o', hca, d0, d1⟩ := rowC_at HCR.out hilt
                    rw [hca] at c13
                    clear hca
                    rw [if_pos hpl, rC_eq] at HD2
                    have HIc : Hid (Have wr s.cases[i].ba s.cases[i].bc s.cases[i].body) := (Ca.in_iff.1 ((St.in_iff.1 (HI1.out.stay hbq)).2.2.2.2.2.2.2.2 _ (List.getElem_mem hilt))).2
                    have HZc : Hid (ssz s.cases[i].body ≤ k) := by
                      have h1 := csz_mem (List.getElem_mem hilt)
                      have h2 := (s.cases[i]).sz_eq
                      have h3 := s.sz_eq
                      have h4 := HZ.out
                      show ssz s.cases[i].body ≤ k
                      omega
                    generalize s.cases[i] = y at *
                    go_wp2_with fail
                    refine (IH.out y.body y.ba y.bc (left - p - 1) _ HZc.out HIc.out (by omega) (by omega)).mono ?_
                    have b4 := rSs_bd y.body (left - p - 1) 0
                    generalize rSs y.body (left - p - 1) 0 = q4 at b4 HD2 ⊢
                    rintro e w7 ⟨rfl, hb7⟩
                    have hb7' := hbq.trans (hb7.mono hbq.size)
                    clear hb7 c13 d0 d1
                    go_wp2_with fail
                    go_roundw
                    case rel =>
                      refine ⟨i + 1, p + (1 + q4), by omega, by go_num, by go_num, by omega, by omega, ?_, hb7'⟩
                      rw [← HPC.out, HD2.out]
                    case measure => simp [intOf]; omega
                  · rw [if_neg hpl] at HD2
                    have hpe : rCs s.cases left n4 = p := by rw [← HPC.out, HD2.out]
                    have c12 := CX.out _ hbq 12 _ rfl
                    go_wp2_with fail
                    refine (IH.out s.els s.ea s.ec (left - p) _ (by have := s.sz_eq; have := HZ.out; omega) (St.in_iff.1 (HI1.out.stay hbq)).2.2.2.2.2.2.1 (by omega) (by omega)).mono ?_
                    have b5 := rSs_bd s.els (left - p) 0
                    have EQ2 : Hid (rS s left m = p + rSs s.els (left - p) 0) := by show _ = _; rw [EQ.out, hpe]; rfl
                    generalize rSs s.els (left - p) 0 = q5 at b5 EQ2 ⊢
                    rintro e w8 ⟨rfl, hb8⟩
                    have hb8' := hb1.trans ((hbq.trans (hb8.mono hbq.size)).mono hb1.size)
                    clear hb8 c12 c13 hpe
                    go_wp2_with fail
                    go_roundw
                    case rel =>
                      refine ⟨j + 1, p + q5, by omega, by go_num, by go_num, by omega, by omega, ?_, hb8'⟩
                      rw [← HC.out, HD.out, EQ2.out]
                    case measure => simp [intOf]; omega
                · obtain rfl : i = s.cases.length := by omega
                  have hpe : rCs s.cases left n4 = p := by rw [← HPC.out, List.drop_eq_nil_of_le (Nat.le_refl _), rCs]
                  have c12 := CX.out _ hbq 12 _ rfl
                  go_wp2_with fail
                  refine (IH.out s.els s.ea s.ec (left - p) _ (by have := s.sz_eq; have := HZ.out; omega) (St.in_iff.1 (HI1.out.stay hbq)).2.2.2.2.2.2.1 (by omega) (by omega)).mono ?_
                  have b5 := rSs_bd s.els (left - p) 0
                  have EQ2 : Hid (rS s left m = p + rSs s.els (left - p) 0) := by show _ = _; rw [EQ.out, hpe]; rfl
                  generalize rSs s.els (left - p) 0 = q5 at b5 EQ2 ⊢
                  rintro e w8 ⟨rfl, hb8⟩
                  have hb8' := hb1.trans ((hbq.trans (hb8.mono hbq.size)).mono hb1.size)
                  clear hb8 c12 c13 hpe
                  go_wp2_with fail
                  go_roundw
                  case rel =>
                    refine ⟨j + 1, p + q5, by omega, by go_num, by go_num, by omega, by omega, ?_, hb8'⟩
                    rw [← HC.out, HD.out, EQ2.out]
                  case measure => simp [intOf]; omega
            · have EQ : Hid (rS s left m = rB s.els left (rCs s.cases left ((m + 1) + (1 + rL s.a.args (left - (m + 1) - 1) 0) + rSs s.body (left - ((m + 1) + (1 + rL s.a.args (left - (m + 1) - 1) 0))) 0))) := by
                show _ = _; rw [rS_eq, rZ_f hza, rZ_t hzb]; rfl
              rw [hza] at HZA
              rw [hzb] at HZB
              go_wp2_with fail
              obtain ⟨W1, hW1⟩ : ∃ W1, wr.alloc (.cells #[.int .i64 s.kind, .string s.name, .int .i64 s.n, .int .i64 s.a.kind, .int .i64 s.a.n, .string s.a.name, .slice s.a.a s.a.args.length s.a.cap, .int .i64 s.b.kind, .int .i64 s.b.n, .string s.b.name, .slice s.b.a s.b.args.length s.b.cap, .slice s.ba s.body.length s.bc, .slice s.ea s.els.length s.ec, .slice s.ca s.cases.length s.cc] 44) = W1 := ⟨_, rfl⟩
              have BX : Hid (∀ (j : Nat) v, s.cells[j]? = some v → W1.cell? ⟨wr.heap.size, j, none⟩ = some v) := by
                show ∀ (j : Nat) v, _; intro j v h
                rw [← hW1, World.cell?_alloc_at _ _ _ _ rfl]; simpa [St.cells] using h
              have hb1 : Below w.heap.size w W1 := by rw [← hW1]; exact hb.alloc hws _
              have hbr : Below wr.heap.size wr W1 := by rw [← hW1]; exact (Below.refl _ wr).alloc (Nat.le_refl _) _
              have hs1 : wr.heap.size < W1.heap.size := by rw [← hW1]; simp
              rw [hW1]
              clear hW1 c0 c1 c2 c3 c4 c5 c6 c7 c8 c9 c10 c11 c12 c13
              have HI1 : Hid (s.In W1) := HI.out.stay hbr
              obtain ⟨Z, hZ⟩ : ∃ Z, wr.heap.size = Z := ⟨_, rfl⟩
              rw [hZ] at BX hs1 ⊢
              have CX : Hid (∀ w', Below W1.heap.size W1 w' → ∀ (j : Nat) v, s.cells[j]? = some v → w'.cell? ⟨Z, j, none⟩ = some v) := fun w' h j v e => (h.cell (p := ⟨Z, j, none⟩) hs1).trans (BX.out j v e)
              clear hbr hZ hb hws
              refine (HZA.out W1).mono ?_
              rintro e w2 ⟨rfl, hb2⟩
              have c6 := CX.out _ hb2 6 _ rfl
              go_wp2_with fail
              refine (rexprs_any s.a.args s.a.a s.a.cap (left - (m + 1) - 1) _ ((St.in_iff.1 (HI1.out.stay hb2)).2.2.2.1.have) (by omega) (by omega)).mono ?_
              have b1 := rL_bd s.a.args (left - (m + 1) - 1) 0
              generalize rL s.a.args (left - (m + 1) - 1) 0 = q1 at b1 EQ ⊢
              rintro e w3 ⟨rfl, hb3⟩
              have hb3' := hb2.trans (hb3.mono hb2.size)
              clear hb2 hb3 c6
              have c7 := CX.out _ hb3' 7 _ rfl
              have c8 := CX.out _ hb3' 8 _ rfl
              have c9 := CX.out _ hb3' 9 _ rfl
              have c10 := CX.out _ hb3' 10 _ rfl
              go_wp2_with fail
              refine (HZB.out _).mono ?_
              rintro e w4 ⟨rfl, hb4⟩
              have hb4' := hb3'.trans (hb4.mono hb3'.size)
              clear hb3' hb4 c7 c8 c9 c10
              have c11 := CX.out _ hb4' 11 _ rfl
              go_wp2_with fail
              refine (IH.out s.body s.ba s.bc (left - ((m + 1) + (1 + q1))) _ (by have := s.sz_eq; have := HZ.out; omega) (St.in_iff.1 (HI1.out.stay hb4')).2.2.2.2.2.1 (by omega) (by omega)).mono ?_
              have b3 := rSs_bd s.body (left - ((m + 1) + (1 + q1))) 0
              generalize rSs s.body (left - ((m + 1) + (1 + q1))) 0 = q3 at b3 EQ ⊢
              rintro e w6 ⟨rfl, hb6⟩
              have hb6' := hb4'.trans (hb6.mono hb4'.size)
              clear hb4' hb6 c11
              obtain ⟨n4, hn4⟩ : ∃ n4, (m + 1) + (1 + q1) + q3 = n4 := ⟨_, rfl⟩
              have hn4b : 0 ≤ n4 ∧ n4 ≤ left + 3 := by omega
              rw [hn4] at EQ
              have HN4 := show Hid _ from hn4
              clear hn4
              go_wp2_with fail
              go_loopw [5, 8] (fun t5 t8 wq => ∃ (i : Nat) (p : Int), i ≤ s.cases.length ∧ t5 = .int .i64 p ∧ t8 = .int .i64 i ∧ 0 ≤ p ∧ p ≤ left + 3 ∧ rCs (s.cases.drop i) left p = rCs s.cases left n4 ∧ Below W1.heap.size W1 wq) (fun _ t8 _ => s.cases.length - (intOf t8).toNat)
              case atStart => exact ⟨0, n4, Nat.zero_le _, by have := HN4.out; go_num, rfl, hn4b.1, hn4b.2, by simp, hb6'⟩
              case round =>
                obtain ⟨i, p, hi, rfl, rfl, hp0, hp1, hpc, hbq⟩ := hrel
                have HPC : Hid (rCs (s.cases.drop i) left p = rCs s.cases left n4) := hpc
                clear hpc
                obtain ⟨hcl, hcc, _, hcr⟩ := (St.in_iff.1 (HI1.out.stay hbq)).2.2.2.2.2.2.2.1
                have HCR : Hid (RowIn wr s.ca 2 (s.cases.map Ca.cells)) := hcr
                clear hcr
                have c13 := CX.out _ hbq 13 _ rfl
                by_cases hilt : i < s.cases.length
                · have hili : (i : Int) < (s.cases.length : Int) := by omega
                  have HD2 : Hid (rCs (s.cases.drop i) left p = if p ≤ left then rCs (s.cases.drop (i + 1)) left (p + (1 + rC s.cases[i] (left - p - 1))) else p) := rCs_drop hilt
                  by_cases hpl : p ≤ left
                  · obtain ⟨b', o', hca, d0, d1⟩ := rowC_at HCR.out hilt
                    rw [hca] at c13
                    clear hca
                    rw [if_pos hpl, rC_eq] at HD2
                    have HIc : Hid (Have wr s.cases[i].ba s.cases[i].bc s.cases[i].body) := (Ca.in_iff.1 ((St.in_iff.1 (HI1.out.stay hbq)).2.2.2.2.2.2.2.2 _ (List.getElem_mem hilt))).2
                    have HZc : Hid (ssz s.cases[i].body ≤ k) := by
                      have h1 := csz_mem (List.getElem_mem hilt)
                      have h2 := (s.cases[i]).sz_eq
                      have h3 := s.sz_eq
                      have h4 := HZ.out
                      show ssz s.cases[i].body ≤ k
                      omega
                    generalize s.cases[i] = y at *
                    go_wp2_with fail
                    refine (IH.out y.body y.ba y.bc (left - p - 1) _ HZc.out HIc.out (by omega) (by omega)).mono ?_
                    have b4 := rSs_bd y.body (left - p - 1) 0
                    generalize rSs y.body (left - p - 1) 0 = q4 at b4 HD2 ⊢
                    rintro e w7 ⟨rfl, hb7⟩
                    have hb7' := hbq.trans (hb7.mono hbq.size)
                    clear hb7 c13 d0 d1
                    go_wp2_with fail
                    go_roundw
                    case rel =>
                      refine ⟨i + 1, p + (1 + q4), by omega, by go_num, by go_num, by omega, by omega, ?_, hb7'⟩
                      rw [← HPC.out, HD2.out]
                    case measure => simp [intOf]; omega
                  · rw [if_neg hpl] at HD2
                    have hpe : rCs s.cases left n4 = p := by rw [← HPC.out, HD2.out]
                    have c12 := CX.out _ hbq 12 _ rfl
                    go_wp2_with fail
                    refine (IH.out s.els s.ea s.ec (left - p) _ (by have := s.sz_eq; have := HZ.out; omega) (St.in_iff.1 (HI1.out.stay hbq)).2.2.2.2.2.2.1 (by omega) (by omega)).mono ?_
                    have b5 := rSs_bd s.els (left - p) 0
                    have EQ2 : Hid (rS s left m = p + rSs s.els (left - p) 0) := by show _ = _; rw [EQ.out, hpe]; rfl
                    generalize rSs s.els (left - p) 0 = q5 at b5 EQ2 ⊢
                    rintro e w8 ⟨rfl, hb8⟩
                    have hb8' := hb1.trans ((hbq.trans (hb8.mono hbq.size)).mono hb1.size)
                    clear hb8 c12 c13 hpe
                    go_wp2_with fail
                    go_roundw
                    case rel =>
                      refine ⟨j + 1, p + q5, by omega, by go_num, by go_num, by omega, by omega, ?_, hb8'⟩
                      rw [← HC.out, HD.out, EQ2.out]
                    case measure => simp [intOf]; omega
                · obtain rfl : i = s.cases.length := by omega
                  have hpe : rCs s.cases left n4 = p := by rw [← HPC.out, List.drop_eq_nil_of_le (Nat.le_refl _), rCs]
                  have c12 := CX.out _ hbq 12 _ rfl
                  go_wp2_with fail
                  refine (IH.out s.els s.ea s.ec (left - p) _ (by have := s.sz_eq; have := HZ.out; omega) (St.in_iff.1 (HI1.out.stay hbq)).2.2.2.2.2.2.1 (by omega) (by omega)).mono ?_
                  have b5 := rSs_bd s.els (left - p) 0
                  have EQ2 : Hid (rS s left m = p + rSs s.els (left - p) 0) := by show _ = _; rw [EQ.out, hpe]; rfl
                  generalize rSs s.els (left - p) 0 = q5 at b5 EQ2 ⊢
                  rintro e w8 ⟨rfl, hb8⟩
                  have hb8' := hb1.trans ((hbq.trans (hb8.mono hbq.size)).mono hb1.size)
                  clear hb8 c12 c13 hpe
                  go_wp2_with fail
                  go_roundw
                  case rel =>
                    refine ⟨j + 1, p + q5, by omega, by go_num, by go_num, by omega, by omega, ?_, hb8'⟩
                    rw [← HC.out, HD.out, EQ2.out]
                  case measure => simp [intOf]; omega
          · cases hzb : zeroE s.b
            · have EQ : Hid (rS s left m = rB s.els left (rCs s.cases left ((m + 1) + (1 + rL s.b.args (left - (m + 1) - 1) 0) + rSs s.body (left - ((m + 1) + (1 + rL s.b.args (left - (m + 1) - 1) 0))) 0))) := by
                show _ = _; rw [rS_eq, rZ_t hza, rZ_f hzb]; rfl
              rw [hza] at HZA
              rw [hzb] at HZB
              go_wp2_with fail
              obtain ⟨W1, hW1⟩ : ∃ W1, wr.alloc (.cells #[.int .i64 s.kind, .string s.name, .int .i64 s.n, .int .i64 s.a.kind, .int .i64 s.a.n, .string s.a.name, .slice s.a.a s.a.args.length s.a.cap, .int .i64 s.b.kind, .int .i64 s.b.n, .string s.b.name, .slice s.b.a s.b.args.length s.b.cap, .slice s.ba s.body.length s.bc, .slice s.ea s.els.length s.ec, .slice s.ca s.cases.length s.cc] 44) = W1 := ⟨_, rfl⟩
              have BX : Hid (∀ (j : Nat) v, s.cells[j]? = some v → W1.cell? ⟨wr.heap.size, j, none⟩ = some v) := by
                show ∀ (j : Nat) v, _; intro j v h
                rw [← hW1, World.cell?_alloc_at _ _ _ _ rfl]; simpa [St.cells] using h
              have hb1 : Below w.heap.size w W1 := by rw [← hW1]; exact hb.alloc hws _
              have hbr : Below wr.heap.size wr W1 := by rw [← hW1]; exact (Below.refl _ wr).alloc (Nat.le_refl _) _
              have hs1 : wr.heap.size < W1.heap.size := by rw [← hW1]; simp
              rw [hW1]
              clear hW1 c0 c1 c2 c3 c4 c5 c6 c7 c8 c9 c10 c11 c12 c13
              have HI1 : Hid (s.In W1) := HI.out.stay hbr
              obtain ⟨Z, hZ⟩ : ∃ Z, wr.heap.size = Z := ⟨_, rfl⟩
              rw [hZ] at BX hs1 ⊢
              have CX : Hid (∀ w', Below W1.heap.size W1 w' → ∀ (j : Nat) v, s.cells[j]? = some v → w'.cell? ⟨Z, j, none⟩ = some v) := fun w' h j v e => (h.cell (p := ⟨Z, j, none⟩) hs1).trans (BX.out j v e)
              clear hbr hZ hb hws
              refine (HZA.out W1).mono ?_
              rintro e w2 ⟨rfl, hb2⟩
              have c7 := CX.out _ hb2 7 _ rfl
              have c8 := CX.out _ hb2 8 _ rfl
              have c9 := CX.out _ hb2 9 _ rfl
              have c10 := CX.out _ hb2 10 _ rfl
              go_wp2_with fail
              refine (HZB.out _).mono ?_
              rintro e w4 ⟨rfl, hb4⟩
              have hb4' := hb2.trans (hb4.mono hb2.size)
              clear hb2 hb4 c7 c8 c9 c10
              have c10 := CX.out _ hb4' 10 _ rfl
              go_wp2_with fail
              refine (rexprs_any s.b.args s.b.a s.b.cap (left - (m + 1) - 1) _ ((St.in_iff.1 (HI1.out.stay hb4')).2.2.2.2.1.have) (by omega) (by omega)).mono ?_
              have b2 := rL_bd s.b.args (left - (m + 1) - 1) 0
              generalize rL s.b.args (left - (m + 1) - 1) 0 = q2 at b2 EQ ⊢
              rintro e w5 ⟨rfl, hb5⟩
              have hb5' := hb4'.trans (hb5.mono hb4'.size)
              clear hb4' hb5 c10
              have c11 := CX.out _ hb5' 11 _ rfl
              go_wp2_with fail
              refine (IH.out s.body s.ba s.bc (left - ((m + 1) + (1 + q2))) _ (by have := s.sz_eq; have := HZ.out; omega) (St.in_iff.1 (HI1.out.stay hb5')).2.2.2.2.2.1 (by omega) (by omega)).mono ?_
              have b3 := rSs_bd s.body (left - ((m + 1) + (1 + q2))) 0
              generalize rSs s.body (left - ((m + 1) + (1 + q2))) 0 = q3 at b3 EQ ⊢
              rintro e w6 ⟨rfl, hb6⟩
              have hb6' := hb5'.trans (hb6.mono hb5'.size)
              clear hb5' hb6 c11
              obtain ⟨n4, hn4⟩ : ∃ n4, (m + 1) + (1 + q2) + q3 = n4 := ⟨_, rfl⟩
              have hn4b : 0 ≤ n4 ∧ n4 ≤ left + 3 := by omega
              rw [hn4] at EQ
              have HN4 := show Hid _ from hn4
              clear hn4
              go_wp2_with fail
              go_loopw [5, 8] (fun t5 t8 wq => ∃ (i : Nat) (p : Int), i ≤ s.cases.length ∧ t5 = .int .i64 p ∧ t8 = .int .i64 i ∧ 0 ≤ p ∧ p ≤ left + 3 ∧ rCs (s.cases.drop i) left p = rCs s.cases left n4 ∧ Below W1.heap.size W1 wq) (fun _ t8 _ => s.cases.length - (intOf t8).toNat)
              case atStart => exact ⟨0, n4, Nat.zero_le _, by have := HN4.out; go_num, rfl, hn4b.1, hn4b.2, by simp, hb6'⟩
              case round =>
                obtain ⟨i, p, hi, rfl, rfl, hp0, hp1, hpc, hbq⟩ := hrel
                have HPC : Hid (rCs (s.cases.drop i) left p = rCs s.cases left n4) := hpc
                clear hpc
                obtain ⟨hcl, hcc, _, hcr⟩ := (St.in_iff.1 (HI1.out.stay hbq)).2.2.2.2.2.2.2.1
                have HCR : Hid (RowIn wr s.ca 2 (s.cases.map Ca.cells)) := hcr
                clear hcr
                have c13 := CX.out _ hbq 13 _ rfl
                by_cases hilt : i < s.cases.length
                · have hili : (i : Int) < (s.cases.length : Int) := by omega
                  have HD2 : Hid (rCs (s.cases.drop i) left p = if p ≤ left then rCs (s.cases.drop (i + 1)) left (p + (1 + rC s.cases[i] (left - p - 1))) else p) := rCs_drop hilt
                  by_cases hpl : p ≤ left
                  · obtain ⟨b', o', hca, d0, d1⟩ := rowC_at HCR.out hilt
                    rw [hca] at c13
                    clear hca
                    rw [if_pos hpl, rC_eq] at HD2
                    have HIc : Hid (Have wr s.cases[i].ba s.cases[i].bc s.cases[i].body) := (Ca.in_iff.1 ((St.in_iff.1 (HI1.out.stay hbq)).2.2.2.2.2.2.2.2 _ (List.getElem_mem hilt))).2
                    have HZc : Hid (ssz s.cases[i].body ≤ k) := by
                      have h1 := csz_mem (List.getElem_mem hilt)
                      have h2 := (s.cases[i]).sz_eq
                      have h3 := s.sz_eq
                      have h4 := HZ.out
                      show ssz s.cases[i].body ≤ k
                      omega
                    generalize s.cases[i] = y at *
                    go_wp2_with fail
                    refine (IH.out y.body y.ba y.bc (left - p - 1) _ HZc.out HIc.out (by omega) (by omega)).mono ?_
                    have b4 := rSs_bd y.body (left - p - 1) 0
                    generalize rSs y.body (left - p - 1) 0 = q4 at b4 HD2 ⊢
                    rintro e w7 ⟨rfl, hb7⟩
                    have hb7' := hbq.trans (hb7.mono hbq.size)
                    clear hb7 c13 d0 d1
                    go_wp2_with fail
                    go_roundw
                    case rel =>
                      refine ⟨i + 1, p + (1 + q4), by omega, by go_num, by go_num, by omega, by omega, ?_, hb7'⟩
                      rw [← HPC.out, HD2.out]
                    case measure => simp [intOf]; omega
                  · rw [if_neg hpl] at HD2
                    have hpe : rCs s.cases left n4 = p := by rw [← HPC.out, HD2.out]
                    have c12 := CX.out _ hbq 12 _ rfl
                    go_wp2_with fail
                    refine (IH.out s.els s.ea s.ec (left - p) _ (by have := s.sz_eq; have := HZ.out; omega) (St.in_iff.1 (HI1.out.stay hbq)).2.2.2.2.2.2.1 (by omega) (by omega)).mono ?_
                    have b5 := rSs_bd s.els (left - p) 0
                    have EQ2 : Hid (rS s left m = p + rSs s.els (left - p) 0) := by show _ = _; rw [EQ.out, hpe]; rfl
                    generalize rSs s.els (left - p) 0 = q5 at b5 EQ2 ⊢
                    rintro e w8 ⟨rfl, hb8⟩
                    have hb8' := hb1.trans ((hbq.trans (hb8.mono hbq.size)).mono hb1.size)
                    clear hb8 c12 c13 hpe
                    go_wp2_with fail
                    go_roundw
                    case rel =>
                      refine ⟨j + 1, p + q5, by omega, by go_num, by go_num, by omega, by omega, ?_, hb8'⟩
                      rw [← HC.out, HD.out, EQ2.out]
                    case measure => simp [intOf]; omega
                · obtain rfl : i = s.cases.length := by omega
                  have hpe : rCs s.cases left n4 = p := by rw [← HPC.out, List.drop_eq_nil_of_le (Nat.le_refl _), rCs]
                  have c12 := CX.out _ hbq 12 _ rfl
                  go_wp2_with fail
                  refine (IH.out s.els s.ea s.ec (left - p) _ (by have := s.sz_eq; have := HZ.out; omega) (St.in_iff.1 (HI1.out.stay hbq)).2.2.2.2.2.2.1 (by omega) (by omega)).mono ?_
                  have b5 := rSs_bd s.els (left - p) 0
                  have EQ2 : Hid (rS s left m = p + rSs s.els (left - p) 0) := by show _ = _; rw [EQ.out, hpe]; rfl
                  generalize rSs s.els (left - p) 0 = q5 at b5 EQ2 ⊢
                  rintro e w8 ⟨rfl, hb8⟩
                  have hb8' := hb1.trans ((hbq.trans (hb8.mono hbq.size)).mono hb1.size)
                  clear hb8 c12 c13 hpe
                  go_wp2_with fail
                  go_roundw
                  case rel =>
                    refine ⟨j + 1, p + q5, by omega, by go_num, by go_num, by omega, by omega, ?_, hb8'⟩
                    rw [← HC.out, HD.out, EQ2.out]
                  case measure => simp [intOf]; omega
            · have EQ : Hid (rS s left m = rB s.els left (rCs s.cases left (m + 1 + rSs s.body (left - (m + 1)) 0))) := by
                show _ = _; rw [rS_eq, rZ_t hza, rZ_t hzb]; rfl
              rw [hza] at HZA
              rw [hzb] at HZB
              go_wp2_with fail
              obtain ⟨W1, hW1⟩ : ∃ W1, wr.alloc (.cells #[.int .i64 s.kind, .string s.name, .int .i64 s.n, .int .i64 s.a.kind, .int .i64 s.a.n, .string s.a.name, .slice s.a.a s.a.args.length s.a.cap, .int .i64 s.b.kind, .int .i64 s.b.n, .string s.b.name, .slice s.b.a s.b.args.length s.b.cap, .slice s.ba s.body.length s.bc, .slice s.ea s.els.length s.ec, .slice s.ca s.cases.length s.cc] 44) = W1 := ⟨_, rfl⟩
              have BX : Hid (∀ (j : Nat) v, s.cells[j]? = some v → W1.cell? ⟨wr.heap.size, j, none⟩ = some v) := by
                show ∀ (j : Nat) v, _; intro j v h
                rw [← hW1, World.cell?_alloc_at _ _ _ _ rfl]; simpa [St.cells] using h
              have hb1 : Below w.heap.size w W1 := by rw [← hW1]; exact hb.alloc hws _
              have hbr : Below wr.heap.size wr W1 := by rw [← hW1]; exact (Below.refl _ wr).alloc (Nat.le_refl _) _
              have hs1 : wr.heap.size < W1.heap.size := by rw [← hW1]; simp
              rw [hW1]
              clear hW1 c0 c1 c2 c3 c4 c5 c6 c7 c8 c9 c10 c11 c12 c13
              have HI1 : Hid (s.In W1) := HI.out.stay hbr
              obtain ⟨Z, hZ⟩ : ∃ Z, wr.heap.size = Z := ⟨_, rfl⟩
              rw [hZ] at BX hs1 ⊢
              have CX : Hid (∀ w', Below W1.heap.size W1 w' → ∀ (j : Nat) v, s.cells[j]? = some v → w'.cell? ⟨Z, j, none⟩ = some v) := fun w' h j v e => (h.cell (p := ⟨Z, j, none⟩) hs1).trans (BX.out j v e)
              clear hbr hZ hb hws
              refine (HZA.out W1).mono ?_
              rintro e w2 ⟨rfl, hb2⟩
              have c7 := CX.out _ hb2 7 _ rfl
              have c8 := CX.out _ hb2 8 _ rfl
              have c9 := CX.out _ hb2 9 _ rfl
              have c10 := CX.out _ hb2 10 _ rfl
              go_wp2_with fail
              refine (HZB.out _).mono ?_
              rintro e w4 ⟨rfl, hb4⟩
              have hb4' := hb2.trans (hb4.mono hb2.size)
              clear hb2 hb4 c7 c8 c9 c10
              have c11 := CX.out _ hb4' 11 _ rfl
              go_wp2_with fail
              refine (IH.out s.body s.ba s.bc (left - (m + 1)) _ (by have := s.sz_eq; have := HZ.out; omega) (St.in_iff.1 (HI1.out.stay hb4')).2.2.2.2.2.1 (by omega) (by omega)).mono ?_
              have b3 := rSs_bd s.body (left - (m + 1)) 0
              generalize rSs s.body (left - (m + 1)) 0 = q3 at b3 EQ ⊢
              rintro e w6 ⟨rfl, hb6⟩
              have hb6' := hb4'.trans (hb6.mono hb4'.size)
              clear hb4' hb6 c11
              obtain ⟨n4, hn4⟩ : ∃ n4, m + 1 + q3 = n4 := ⟨_, rfl⟩
              have hn4b : 0 ≤ n4 ∧ n4 ≤ left + 3 := by omega
              rw [hn4] at EQ
              have HN4 := show Hid _ from hn4
              clear hn4
              go_wp2_with fail
              go_loopw [5, 8] (fun t5 t8 wq => ∃ (i : Nat) (p : Int), i ≤ s.cases.length ∧ t5 = .int .i64 p ∧ t8 = .int .i64 i ∧ 0 ≤ p ∧ p ≤ left + 3 ∧ rCs (s.cases.drop i) left p = rCs s.cases left n4 ∧ Below W1.heap.size W1 wq) (fun _ t8 _ => s.cases.length - (intOf t8).toNat)
              case atStart => exact ⟨0, n4, Nat.zero_le _, by have := HN4.out; go_num, rfl, hn4b.1, hn4b.2, by simp, hb6'⟩
              case round =>
                obtain ⟨i, p, hi, rfl, rfl, hp0, hp1, hpc, hbq⟩ := hrel
                have HPC : Hid (rCs (s.cases.drop i) left p = rCs s.cases left n4) := hpc
                clear hpc
                obtain ⟨hcl, hcc, _, hcr⟩ := (St.in_iff.1 (HI1.out.stay hbq)).2.2.2.2.2.2.2.1
                have HCR : Hid (RowIn wr s.ca 2 (s.cases.map Ca.cells)) := hcr
                clear hcr
                have c13 := CX.out _ hbq 13 _ rfl
                by_cases hilt : i < s.cases.length
                · have hili : (i : Int) < (s.cases.length : Int) := by omega
                  have HD2 : Hid (rCs (s.cases.drop i) left p = if p ≤ left then rCs (s.cases.drop (i + 1)) left (p + (1 + rC s.cases[i] (left - p - 1))) else p) := rCs_drop hilt
                  by_cases hpl : p ≤ left
                  · obtain ⟨b', o', hca, d0, d1⟩ := rowC_at HCR.out hilt
                    rw [hca] at c13
                    clear hca
                    rw [if_pos hpl, rC_eq] at HD2
                    have HIc : Hid (Have wr s.cases[i].ba s.cases[i].bc s.cases[i].body) := (Ca.in_iff.1 ((St.in_iff.1 (HI1.out.stay hbq)).2.2.2.2.2.2.2.2 _ (List.getElem_mem hilt))).2
                    have HZc : Hid (ssz s.cases[i].body ≤ k) := by
                      have h1 := csz_mem (List.getElem_mem hilt)
                      have h2 := (s.cases[i]).sz_eq
                      have h3 := s.sz_eq
                      have h4 := HZ.out
                      show ssz s.cases[i].body ≤ k
                      omega
                    generalize s.cases[i] = y at *
                    go_wp2_with fail
                    refine (IH.out y.body y.ba y.bc (left - p - 1) _ HZc.out HIc.out (by omega) (by omega)).mono ?_
                    have b4 := rSs_bd y.body (left - p - 1) 0
                    generalize rSs y.body (left - p - 1) 0 = q4 at b4 HD2 ⊢
                    rintro e w7 ⟨rfl, hb7⟩
                    have hb7' := hbq.trans (hb7.mono hbq.size)
                    clear hb7 c13 d0 d1
                    go_wp2_with fail
                    go_roundw
                    case rel =>
                      refine ⟨i + 1, p + (1 + q4), by omega, by go_num, by go_num, by omega, by omega, ?_, hb7'⟩
                      rw [← HPC.out, HD2.out]
                    case measure => simp [intOf]; omega
                  · rw [if_neg hpl] at HD2
                    have hpe : rCs s.cases left n4 = p := by rw [← HPC.out, HD2.out]
                    have c12 := CX.out _ hbq 12 _ rfl
                    go_wp2_with fail
                    refine (IH.out s.els s.ea s.ec (left - p) _ (by have := s.sz_eq; have := HZ.out; omega) (St.in_iff.1 (HI1.out.stay hbq)).2.2.2.2.2.2.1 (by omega) (by omega)).mono ?_
                    have b5 := rSs_bd s.els (left - p) 0
                    have EQ2 : Hid (rS s left m = p + rSs s.els (left - p) 0) := by show _ = _; rw [EQ.out, hpe]; rfl
                    generalize rSs s.els (left - p) 0 = q5 at b5 EQ2 ⊢
                    rintro e w8 ⟨rfl, hb8⟩
                    have hb8' := hb1.trans ((hbq.trans (hb8.mono hbq.size)).mono hb1.size)
                    clear hb8 c12 c13 hpe
                    go_wp2_with fail
                    go_roundw
                    case rel =>
                      refine ⟨j + 1, p + q5, by omega, by go_num, by go_num, by omega, by omega, ?_, hb8'⟩
                      rw [← HC.out, HD.out, EQ2.out]
                    case measure => simp [intOf]; omega
                · obtain rfl : i = s.cases.length := by omega
                  have hpe : rCs s.cases left n4 = p := by rw [← HPC.out, List.drop_eq_nil_of_le (Nat.le_refl _), rCs]
                  have c12 := CX.out _ hbq 12 _ rfl
                  go_wp2_with fail
                  refine (IH.out s.els s.ea s.ec (left - p) _ (by have := s.sz_eq; have := HZ.out; omega) (St.in_iff.1 (HI1.out.stay hbq)).2.2.2.2.2.2.1 (by omega) (by omega)).mono ?_
                  have b5 := rSs_bd s.els (left - p) 0
                  have EQ2 : Hid (rS s left m = p + rSs s.els (left - p) 0) := by show _ = _; rw [EQ.out, hpe]; rfl
                  generalize rSs s.els (left - p) 0 = q5 at b5 EQ2 ⊢
                  rintro e w8 ⟨rfl, hb8⟩
                  have hb8' := hb1.trans ((hbq.trans (hb8.mono hbq.size)).mono hb1.size)
                  clear hb8 c12 c13 hpe
                  go_wp2_with fail
                  go_roundw
                  case rel =>
                    refine ⟨j + 1, p + q5, by omega, by go_num, by go_num, by omega, by omega, ?_, hb8'⟩
                    rw [← HC.out, HD.out, EQ2.out]
                  case measure => simp [intOf]; omega
        · rw [if_neg hm] at HD
          go_wp2_with fail
          go_ret
          exact ⟨ret_int (by rw [← HC.out, HD.out]), hb⟩
      · obtain rfl : j = l.length := by omega
        go_wp2_with fail
        go_ret
        exact ⟨ret_int (by rw [← HC.out, List.drop_eq_nil_of_le (Nat.le_refl _), rSs]), hb⟩
theorem rstmts_any (l : List St) (a : Option Addr) (c : Nat) (left : Int) (w : World) (hin : Have w a c l) (h0 : -8 ≤ left) (h1 : left ≤ 4611686018427387904) :
    Calls Tryz.prog 53 #[.slice a l.length c, .int .i64 left] w fun e w' => e = .returned (.int .i64 (rSs l left 0)) ∧ Below w.heap.size w w' := rstmts_k _ l a c left w (Nat.le_refl _) hin h0 h1
end Go.Proofs.YtkkcgkpbbngloaaGreatDoor

/- The document's own count of a program's parts: what it answers. -/
namespace Go.Proofs.YtkkcgkpbbngloaaGreatDoor
open Go.RowKit

def rF : List Fu → Int → Int | [], n => n | f :: r, n => if n ≤ 4096 then rF r (n + rSs f.body (4096 - n) 0) else n
theorem rF_drop {l : List Fu} {j : Nat} {n : Int} (h : j < l.length) : rF (l.drop j) n = if n ≤ 4096 then rF (l.drop (j + 1)) (n + rSs l[j].body (4096 - n) 0) else n := by
  rw [List.drop_eq_getElem_cons h, rF]
/-- How many parts a program has, as the document's own answer counts them. -/
def rnodesZ (p : Pr) : Int := if 4096 < rF p.funcs 0 then 4097 else rF p.funcs 0

set_option maxRecDepth 100000 in
set_option maxHeartbeats 4000000 in
theorem rnodes_any (p : Pr) (w : World) (hin : p.In w) : Calls Tryz.prog 29 #[p.val] w fun e w' => e = .returned (.int .i64 (rnodesZ p)) ∧ Below w.heap.size w w' := by
  obtain ⟨h1, h2, h3, h4, h5, h6, h7, h8, hrow, hsub⟩ := hin
  have HR : Hid (RowIn w p.fa 3 (List.map Fu.cells p.funcs)) := hrow
  have HS : Hid (∀ f ∈ p.funcs, f.In w) := hsub
  clear hrow hsub h1 h2 h3 h4 h5 h8
  have hZ : rnodesZ p = if 4096 < rF p.funcs 0 then 4097 else rF p.funcs 0 := rfl
  have HZ := show Hid _ from hZ
  clear hZ
  generalize rnodesZ p = res at HZ ⊢
  unfold Pr.val
  obtain ⟨W1, hW1⟩ : ∃ W1, w.alloc (.cells #[.slice p.wa p.widen.length p.wc, .slice p.fa p.funcs.length p.fc] 25) = W1 := ⟨_, rfl⟩
  have HW1 := show Hid _ from hW1
  have hb1 : Below w.heap.size w W1 := by rw [← hW1]; exact (Below.refl _ w).alloc (Nat.le_refl _) _
  have CX : Hid (∀ w', Below W1.heap.size W1 w' → w'.cell? ⟨w.heap.size, 1, none⟩ = some (.slice p.fa p.funcs.length p.fc)) := fun w' h => by
    refine (h.cell (p := ⟨w.heap.size, 1, none⟩) (by rw [← hW1]; simp)).trans ?_
    rw [← hW1, World.cell?_alloc_at _ _ _ _ rfl]; rfl
  clear hW1
  go_enter Tryz.func29, Tryz.ntmps29
  go_wp2_with fail
  rw [HW1.out]
  clear HW1
  obtain ⟨Z, hZ⟩ : ∃ Z, w.heap.size = Z := ⟨_, rfl⟩
  have HW : Hid (w.heap.size = Z) := hZ
  rw [hZ] at CX ⊢
  clear hZ
  go_loopw [3, 4] (fun t3 t4 wr => ∃ (j : Nat) (m : Int), j ≤ p.funcs.length ∧ t3 = .int .i64 m ∧ t4 = .int .i64 j ∧ 0 ≤ m ∧ m ≤ 4099 ∧ rF (p.funcs.drop j) m = rF p.funcs 0 ∧ Below W1.heap.size W1 wr) (fun _ t4 _ => p.funcs.length - (intOf t4).toNat)
  case atStart => exact ⟨0, 0, Nat.zero_le _, rfl, rfl, by omega, by omega, by simp, Below.refl _ _⟩
  case round =>
    obtain ⟨j, m, hj, rfl, rfl, hm0, hm1, hcnt, hb⟩ := hrel
    have HC : Hid (rF (p.funcs.drop j) m = rF p.funcs 0) := hcnt
    clear hcnt
    have hws := hb.size
    have hbw : Below w.heap.size w wr := hb1.trans (hb.mono hb1.size)
    have c1 := CX.out _ hb
    by_cases hlt : j < p.funcs.length
    · have hli : (j : Int) < (p.funcs.length : Int) := by omega
      have HD : Hid (rF (p.funcs.drop j) m = if m ≤ 4096 then rF (p.funcs.drop (j + 1)) (m + rSs p.funcs[j].body (4096 - m) 0) else m) := rF_drop hlt
      by_cases hm : m ≤ 4096
      · obtain ⟨b, o, hfa, d0, d1, d2⟩ := rowF_at (HR.out.below hbw) hlt
        rw [hfa] at c1
        clear hfa
        have HH : Hid (Have wr p.funcs[j].ba p.funcs[j].bc p.funcs[j].body) := (HS.out p.funcs[j] (List.getElem_mem hlt)).2.2.2.2.2.2.stay hbw
        rw [if_pos hm] at HD
        have hbd := rSs_bd p.funcs[j].body (4096 - m) 0
        generalize p.funcs[j] = f at *
        go_wp2_with fail
        refine (rstmts_any f.body f.ba f.bc (4096 - m) _ HH.out (by omega) (by omega)).mono ?_
        generalize rSs f.body (4096 - m) 0 = q at hbd HD ⊢
        rintro e w' ⟨rfl, hb'⟩
        have hb2 := hb.trans (hb'.mono hws)
        clear c1 d0 d1 d2
        go_wp2_with fail
        go_roundw
        case rel =>
          refine ⟨j + 1, m + q, by omega, by go_num, by go_num, by omega, by omega, ?_, hb2⟩
          rw [← HC.out, HD.out]
        case measure => simp [intOf]; omega
      · rw [if_neg hm] at HD
        have he : res = 4097 := by rw [HZ.out, ← HC.out, HD.out, if_pos (by omega)]
        clear HZ
        subst he
        go_wp2_with fail
        go_ret
        exact ⟨rfl, hbw⟩
    · obtain rfl : j = p.funcs.length := by omega
      have he : rF p.funcs 0 = m := by rw [← HC.out, List.drop_eq_nil_of_le (Nat.le_refl _), rF]
      rw [he] at HZ
      clear he HC
      by_cases hm : m ≤ 4096
      · have he : res = m := by rw [HZ.out, if_neg (by omega)]
        clear HZ
        subst he
        go_wp2_with fail
        go_ret
        exact ⟨rfl, hbw⟩
      · have he : res = 4097 := by rw [HZ.out, if_pos (by omega)]
        clear HZ
        subst he
        go_wp2_with fail
        go_ret
        exact ⟨rfl, hbw⟩
end Go.Proofs.YtkkcgkpbbngloaaGreatDoor

/- Both counts are the same. -/
namespace Go.Proofs.YtkkcgkpbbngloaaGreatDoor
open Go.RowKit

/-- r is n and N, if that is within the limit, else past it. -/
def PP (lim n N r : Int) : Prop := n ≤ r ∧ (n + N ≤ lim → r = n + N) ∧ (lim < n + N → lim < r)
theorem PP.comp {lim n A r B s : Int} (h : PP lim n A r) (h' : PP lim r B s) (hB : 0 ≤ B) : PP lim n (A + B) s := by
  unfold PP at *; omega
theorem PP.of {lim n N N' r : Int} (h : PP lim n N r) (e : N = N') : PP lim n N' r := by subst e; exact h
theorem PP.past {lim n N : Int} (h : lim < n) (_ : 0 ≤ N) : PP lim n N n := by unfold PP; omega
theorem PP.nil (lim n : Int) : PP lim n 0 n := by unfold PP; omega
theorem PP.plus (lim n : Int) (A : Int) (h : 0 ≤ A) : PP lim n A (n + A) := by unfold PP; omega
theorem PP.under {lim n A q : Int} (h : PP (lim - n) 0 A q) : PP lim n A (n + q) := by unfold PP at *; omega
theorem PP.under1 {lim n A q : Int} (h : PP (lim - n - 1) 0 A q) : PP lim n (A + 1) (n + (1 + q)) := by unfold PP at *; omega

theorem pe (k : Nat) : (∀ (x : Ex) (n : Int), x.sz ≤ k → PP 4096 n x.sz (cntE x n)) ∧ (∀ (l : List Ex) (n : Int), szL l ≤ k → PP 4096 n (szL l) (cntL l n)) := by
  induction k with
  | zero =>
    refine ⟨fun x n hk => by have := x.sz_args; omega, fun l n hk => ?_⟩
    cases l with
    | nil => simp only [cntL, szL]; exact PP.nil _ _
    | cons x r => rw [szL] at hk; have := x.sz_args; omega
  | succ k ih =>
    have h1 : ∀ (x : Ex) (n : Int), x.sz ≤ k + 1 → PP 4096 n x.sz (cntE x n) := fun x n hk => by
      have e := x.sz_args
      rw [cntE_args]
      exact ((PP.plus 4096 n 1 (by omega)).comp (ih.2 x.args (n + 1) (by omega)) (by omega)).of (by omega)
    refine ⟨h1, fun l => ?_⟩
    induction l with
    | nil => intro n _; simp only [cntL, szL]; exact PP.nil _ _
    | cons x r ihr =>
      intro n hk
      rw [szL] at hk
      rw [cntL]
      split
      · exact PP.past (by assumption) (by omega)
      · exact ((h1 x n (by omega)).comp (ihr (cntE x n) (by omega)) (by omega)).of (by rw [szL]; omega)
theorem pe' (k : Nat) : (∀ (x : Ex) (left n : Int), x.sz ≤ k → PP left n x.sz (n + (1 + rE x (left - n - 1)))) ∧ (∀ (l : List Ex) (left n : Int), szL l ≤ k → PP left n (szL l) (rL l left n)) := by
  induction k with
  | zero =>
    refine ⟨fun x left n hk => by have := x.sz_args; omega, fun l left n hk => ?_⟩
    cases l with
    | nil => simp only [rL, szL]; exact PP.nil _ _
    | cons x r => rw [szL] at hk; have := x.sz_args; omega
  | succ k ih =>
    have h1 : ∀ (x : Ex) (left n : Int), x.sz ≤ k + 1 → PP left n x.sz (n + (1 + rE x (left - n - 1))) := fun x left n hk => by
      have e := x.sz_args
      rw [rE_args]
      exact (PP.under1 (ih.2 x.args (left - n - 1) 0 (by omega))).of (by omega)
    refine ⟨h1, fun l => ?_⟩
    induction l with
    | nil => intro left n _; simp only [rL, szL]; exact PP.nil _ _
    | cons x r ihr =>
      intro left n hk
      rw [szL] at hk
      rw [rL]
      split
      · exact ((h1 x left n (by omega)).comp (ihr left _ (by omega)) (by omega)).of (by rw [szL]; omega)
      · exact PP.past (by omega) (by omega)

def tZ (x : Ex) : Int := if zeroE x then 0 else x.sz
theorem tZ_ge (x : Ex) : 0 ≤ tZ x := by unfold tZ; split <;> omega
theorem pz (x : Ex) (n : Int) : PP 4096 n (tZ x) (cntZ x n) := by
  unfold tZ cntZ; split
  · exact PP.nil _ _
  · exact (pe _).1 x n (Nat.le_refl _)
theorem pz' (x : Ex) (left n : Int) : PP left n (tZ x) (rZ x left n) := by
  unfold tZ rZ; split
  · exact PP.nil _ _
  · rw [← rE_args]; exact (pe' _).1 x left n (Nat.le_refl _)
mutual
def tS : St → Int
  | .mk _ _ _ a b _ _ l _ _ e _ _ c => 1 + (tZ a + (tZ b + (tSs l + (tCs c + tSs e))))
def tSs : List St → Int | [] => 0 | s :: r => tS s + tSs r
def tC : Ca → Int | .mk _ _ _ l => tSs l + 1
def tCs : List Ca → Int | [] => 0 | c :: r => tC c + tCs r
end
theorem tS_eq (s : St) : tS s = 1 + (tZ s.a + (tZ s.b + (tSs s.body + (tCs s.cases + tSs s.els)))) := by cases s; simp only [tS, St.a, St.b, St.body, St.cases, St.els]
theorem tC_eq (c : Ca) : tC c = tSs c.body + 1 := by cases c; simp only [tC, Ca.body]
theorem t_ge (k : Nat) : (∀ s : St, s.sz ≤ k → 0 ≤ tS s) ∧ (∀ l : List St, ssz l ≤ k → 0 ≤ tSs l) ∧ (∀ l : List Ca, csz l ≤ k → (l.length : Int) ≤ tCs l) := by
  induction k with
  | zero =>
    refine ⟨fun s hk => by have := s.sz_eq; omega, fun l hk => ?_, fun l hk => ?_⟩
    · cases l with
      | nil => simp [tSs]
      | cons x r => rw [ssz] at hk; have := x.sz_eq; omega
    · cases l with
      | nil => simp [tCs]
      | cons x r => rw [csz] at hk; have := x.sz_eq; omega
  | succ k ih =>
    have h1 : ∀ s : St, s.sz ≤ k + 1 → 0 ≤ tS s := fun s hk => by
      have e := s.sz_eq
      rw [tS_eq]
      have := tZ_ge s.a
      have := tZ_ge s.b
      have := ih.2.1 s.body (by omega)
      have := ih.2.1 s.els (by omega)
      have := ih.2.2 s.cases (by omega)
      omega
    refine ⟨h1, fun l => ?_, fun l => ?_⟩
    · induction l with
      | nil => simp [tSs]
      | cons x r ihr =>
        intro hk
        rw [ssz] at hk
        rw [tSs]
        have := h1 x (by omega)
        have := ihr (by omega)
        omega
    · induction l with
      | nil => simp [tCs]
      | cons x r ihr =>
        intro hk
        rw [csz] at hk
        rw [tCs, tC_eq]
        have := x.sz_eq
        have := ih.2.1 x.body (by omega)
        have := ihr (by omega)
        simp only [List.length_cons]
        omega
theorem tSs_ge (l : List St) : 0 ≤ tSs l := (t_ge _).2.1 l (Nat.le_refl _)
theorem tS_ge (s : St) : 0 ≤ tS s := (t_ge _).1 s (Nat.le_refl _)
theorem tCs_ge (l : List Ca) : (l.length : Int) ≤ tCs l := (t_ge _).2.2 l (Nat.le_refl _)

theorem cntS_eq' (s : St) (n : Int) : cntS s n = cntSs s.els (cntCs s.cases (cntSs s.body (cntZ s.b (cntZ s.a (n + (1 + (s.cases.length : Int))))))) := by
  cases s; simp only [cntS, St.els, St.cases, St.body, St.a, St.b]
theorem ps (k : Nat) : (∀ (s : St) (n : Int), s.sz ≤ k → PP 4096 n (tS s) (cntS s n)) ∧ (∀ (l : List St) (n : Int), ssz l ≤ k → PP 4096 n (tSs l) (cntSs l n)) := by
  induction k with
  | zero =>
    refine ⟨fun s n hk => by have := s.sz_eq; omega, fun l n hk => ?_⟩
    cases l with
    | nil => simp only [cntSs, tSs]; exact PP.nil _ _
    | cons x r => rw [ssz] at hk; have := x.sz_eq; omega
  | succ k ih =>
    have hC : ∀ (l : List Ca) (n : Int), csz l ≤ k → PP 4096 n (tCs l - (l.length : Int)) (cntCs l n) := fun l => by
      induction l with
      | nil => intro n _; simp only [cntCs, tCs]; exact (PP.nil _ _).of (by simp)
      | cons c r ihr =>
        intro n hk
        rw [csz] at hk
        rw [cntCs, cntC_eq]
        have := c.sz_eq
        have := tCs_ge r
        exact ((ih.2 c.body n (by omega)).comp (ihr _ (by omega)) (by omega)).of (by rw [tCs, tC_eq]; simp only [List.length_cons]; omega)
    have h1 : ∀ (s : St) (n : Int), s.sz ≤ k + 1 → PP 4096 n (tS s) (cntS s n) := fun s n hk => by
      have e := s.sz_eq
      have a1 := tZ_ge s.a
      have a2 := tZ_ge s.b
      have a3 := tSs_ge s.body
      have a4 := tSs_ge s.els
      have a5 := tCs_ge s.cases
      rw [cntS_eq']
      exact ((((((PP.plus 4096 n (1 + (s.cases.length : Int)) (by omega)).comp (pz s.a _) a1).comp (pz s.b _) a2).comp (ih.2 s.body _ (by omega)) a3).comp (hC s.cases _ (by omega)) (by omega)).comp (ih.2 s.els _ (by omega)) a4).of (by rw [tS_eq]; omega)
    refine ⟨h1, fun l => ?_⟩
    induction l with
    | nil => intro n _; simp only [cntSs, tSs]; exact PP.nil _ _
    | cons x r ihr =>
      intro n hk
      rw [ssz] at hk
      have := tSs_ge r
      have := tS_ge x
      rw [cntSs]
      split
      · exact PP.past (by assumption) (by rw [tSs]; omega)
      · exact ((h1 x n (by omega)).comp (ihr _ (by omega)) (by omega)).of (by rw [tSs])
theorem ps' (k : Nat) : (∀ (s : St) (left n : Int), s.sz ≤ k → PP left n (tS s) (rS s left n)) ∧ (∀ (l : List St) (left n : Int), ssz l ≤ k → PP left n (tSs l) (rSs l left n)) := by
  induction k with
  | zero =>
    refine ⟨fun s left n hk => by have := s.sz_eq; omega, fun l left n hk => ?_⟩
    cases l with
    | nil => simp only [rSs, tSs]; exact PP.nil _ _
    | cons x r => rw [ssz] at hk; have := x.sz_eq; omega
  | succ k ih =>
    have hC : ∀ (l : List Ca) (left n : Int), csz l ≤ k → PP left n (tCs l) (rCs l left n) := fun l => by
      induction l with
      | nil => intro left n _; simp only [rCs, tCs]; exact PP.nil _ _
      | cons c r ihr =>
        intro left n hk
        rw [csz] at hk
        have := c.sz_eq
        have := tCs_ge r
        have := tSs_ge c.body
        rw [rCs]
        split
        · rw [rC_eq]
          exact ((PP.under1 (ih.2 c.body (left - n - 1) 0 (by omega))).comp (ihr left _ (by omega)) (by omega)).of (by rw [tCs, tC_eq])
        · exact PP.past (by omega) (by rw [tCs, tC_eq]; omega)
    have hB : ∀ (l : List St) (left n : Int), ssz l ≤ k → PP left n (tSs l) (rB l left n) := fun l left n hk => PP.under (ih.2 l (left - n) 0 hk)
    have h1 : ∀ (s : St) (left n : Int), s.sz ≤ k + 1 → PP left n (tS s) (rS s left n) := fun s left n hk => by
      have e := s.sz_eq
      have a1 := tZ_ge s.a
      have a2 := tZ_ge s.b
      have a3 := tSs_ge s.body
      have a4 := tSs_ge s.els
      have a5 := tCs_ge s.cases
      rw [rS_eq]
      exact ((((((PP.plus left n 1 (by omega)).comp (pz' s.a left _) a1).comp (pz' s.b left _) a2).comp (hB s.body left _ (by omega)) a3).comp (hC s.cases left _ (by omega)) (by omega)).comp (hB s.els left _ (by omega)) a4).of (by rw [tS_eq]; omega)
    refine ⟨h1, fun l => ?_⟩
    induction l with
    | nil => intro left n _; simp only [rSs, tSs]; exact PP.nil _ _
    | cons x r ihr =>
      intro left n hk
      rw [ssz] at hk
      have := tSs_ge r
      have := tS_ge x
      rw [rSs]
      split
      · exact ((h1 x left n (by omega)).comp (ihr left _ (by omega)) (by omega)).of (by rw [tSs])
      · exact PP.past (by omega) (by rw [tSs]; omega)

def tF : List Fu → Int | [] => 0 | f :: r => tSs f.body + tF r
theorem tF_ge : ∀ l : List Fu, 0 ≤ tF l
  | [] => by simp [tF]
  | f :: r => by rw [tF]; have := tSs_ge f.body; have := tF_ge r; omega
theorem pf : ∀ (l : List Fu) (n : Int), PP 4096 n (tF l) (cntF l n)
  | [], n => by rw [tF, cntF]; exact PP.nil _ _
  | f :: r, n => by
    rw [tF, cntF]
    exact ((ps _).2 f.body n (Nat.le_refl _)).comp (pf r _) (tF_ge r)
theorem pf' : ∀ (l : List Fu) (n : Int), PP 4096 n (tF l) (rF l n)
  | [], n => by rw [tF, rF]; exact PP.nil _ _
  | f :: r, n => by
    rw [tF, rF]
    have := tSs_ge f.body
    have := tF_ge r
    split
    · exact (PP.under ((ps' _).2 f.body (4096 - n) 0 (Nat.le_refl _))).comp (pf' r _) (tF_ge r)
    · exact PP.past (by omega) (by omega)
theorem nodes_same (p : Pr) : nodesZ p = rnodesZ p := by
  have h1 := pf p.funcs 0
  have h2 := pf' p.funcs 0
  have h3 := tF_ge p.funcs
  unfold nodesZ rnodesZ
  unfold PP at h1 h2
  split <;> omega
end Go.Proofs.YtkkcgkpbbngloaaGreatDoor

/- The document's own look at thresholds and counts. -/
namespace Go.Proofs.YtkkcgkpbbngloaaGreatDoor
open Go.RowKit Go.Sort

set_option maxRecDepth 100000 in
set_option maxHeartbeats 2000000 in
theorem head_any (p : Pr) (w : World) (hin : p.In w) : Calls Tryz.prog 18 #[p.val] w fun e w' => e = .returned (.int .i64 (wholeZ p)) ∧ Below w.heap.size w w' := by
  have HR : Hid (RowIn w p.wa 1 (p.widen.map fun z => [.int .i64 z])) := hin.2.2.2.1
  have HN : Hid (∀ w', Below w.heap.size w w' → Calls Tryz.prog 29 #[p.val] w' fun e w'' => e = .returned (.int .i64 (nodesZ p)) ∧ Below w'.heap.size w' w'') := fun w' hb => by
    rw [nodes_same]; exact rnodes_any p w' (hin.stay hb)
  have HE : Hid (wholeZ p = if 16 < p.widen.length then 3 else if hasZ (-9223372036854775808) p.widen = true then 1 else if riseB p.widen = false then 66 else if 32 < p.funcs.length then 3 else if 4096 < nodesZ p then 3 else 0) := (rfl : wholeZ p = _)
  generalize wholeZ p = res at HE ⊢
  generalize nodesZ p = nz at HN HE
  have HRB : Hid (∀ w', Below w.heap.size w w' → RowIn w' p.wa 1 (p.widen.map fun z => [.int .i64 z])) := fun w' hb => HR.out.below hb
  clear hin
  have hb1 := (Below.refl _ w).alloc (Nat.le_refl _) (.cells #[.slice p.wa p.widen.length p.wc, .slice p.fa p.funcs.length p.fc] 25)
  have hbx := boxL_new w #[.slice p.wa p.widen.length p.wc, .slice p.fa p.funcs.length p.fc] 25
  unfold Pr.val at HN ⊢
  by_cases e1 : 16 < p.widen.length
  · have e1' : (16 : Int) < (p.widen.length : Int) := by omega
    go_enter Tryz.func18, Tryz.ntmps18
    go_wp2_with fail
    go_ret
    exact ⟨ret_int (by rw [HE.out, if_pos e1]), hb1⟩
  · have e1' : ¬ (16 : Int) < (p.widen.length : Int) := by omega
    rw [if_neg e1] at HE
    go_enter Tryz.func18, Tryz.ntmps18
    go_upto_region 1 with fail
    generalize w.alloc (.cells #[.slice p.wa p.widen.length p.wc, .slice p.fa p.funcs.length p.fc] 25) = W1 at hb1 hbx ⊢
    have c0 := hbx 0 _ rfl
    have c1 := hbx 1 _ rfl
    have HRW : Hid (RowIn W1 p.wa 1 (p.widen.map fun z => [.int .i64 z])) := HRB.out W1 hb1
    clear hbx HRB HR
    go_wp2_with fail
    go_loopw [3] (fun t3 wr => ∃ (j : Nat), j ≤ p.widen.length ∧ t3 = .int .i64 j ∧ hasZ (-9223372036854775808) (p.widen.drop j) = hasZ (-9223372036854775808) p.widen ∧ wr = W1) (fun t3 _ => p.widen.length - (intOf t3).toNat)
    case atStart => exact ⟨0, Nat.zero_le _, rfl, rfl, rfl⟩
    case round =>
      obtain ⟨j, hj, rfl, hcnt, hwr⟩ := hrel
      obtain rfl := hwr.symm
      have HC : Hid (hasZ (-9223372036854775808) (p.widen.drop j) = hasZ (-9223372036854775808) p.widen) := hcnt
      clear hcnt
      by_cases hlt : j < p.widen.length
      · obtain ⟨b, o, hwa, d0⟩ := rowW_at HRW.out hlt
        have c0' := c0
        rw [hwa] at c0'
        clear hwa c0
        have hli : (j : Int) < (p.widen.length : Int) := by omega
        have HD : Hid (hasZ (-9223372036854775808) (p.widen.drop j) = (-9223372036854775808 == p.widen[j] || hasZ (-9223372036854775808) (p.widen.drop (j + 1)))) := hasZ_drop hlt
        generalize p.widen[j] = z at *
        rw [show ((-9223372036854775808 : Int) == z) = (z == -9223372036854775808) from Bool.beq_comm] at HD
        cases ez : (z == -9223372036854775808)
        · go_wp2_with fail
          go_roundw
          case rel => exact ⟨j + 1, by omega, by go_num, by rw [← HC.out, HD.out, ez]; rfl, trivial⟩
          case measure => simp [intOf]; omega
        · have HV : Hid (hasZ (-9223372036854775808) p.widen = true) := by show _ = _; rw [← HC.out, HD.out, ez]; rfl
          go_wp2_with fail
          go_ret
          exact ⟨ret_int (by rw [HE.out, if_pos HV.out]), hb1⟩
      · have hli : ¬ (j : Int) < (p.widen.length : Int) := by omega
        have HV : Hid (hasZ (-9223372036854775808) p.widen = false) := by show _ = _; rw [← HC.out, List.drop_eq_nil_of_le (by omega)]; rfl
        rw [if_neg (by rw [HV.out]; decide)] at HE
        clear HC HV
        go_wp2_with fail
        go_loopw [4] (fun t3 wr => ∃ (j nq : Nat), j ≤ p.widen.length ∧ t3 = .int .i64 (j + 1) ∧ riseB (p.widen.drop j) = riseB p.widen ∧ wr = W1.drewN nq) (fun t3 _ => p.widen.length + 1 - (intOf t3).toNat)
        case atStart => exact ⟨0, 0, Nat.zero_le _, rfl, rfl, rfl⟩
        case round =>
          obtain ⟨j, nq, hj, rfl, hcnt, rfl⟩ := hrel
          have HC : Hid (riseB (p.widen.drop j) = riseB p.widen) := hcnt
          clear hcnt
          by_cases hlt : j + 1 < p.widen.length
          · obtain ⟨b, o, hwa, d0⟩ := rowW_at HRW.out hlt
            obtain ⟨b', o', e, d1⟩ := rowW_at HRW.out (show j < p.widen.length by omega)
            rw [hwa] at e
            cases e
            have c0' := c0
            rw [hwa] at c0'
            clear hwa c0
            have hli : (j : Int) + 1 < (p.widen.length : Int) := by omega
            have HD : Hid (riseB (p.widen.drop j) = if p.widen[j + 1] ≤ p.widen[j]'(by omega) then false else riseB (p.widen.drop (j + 1))) := riseB_drop hlt
            generalize p.widen[j + 1] = z1 at *
            generalize p.widen[j] = z0 at *
            go_wp2_with fail
            go_quiet (fail)
            by_cases ez : z1 ≤ z0
            · have HV : Hid (riseB p.widen = false) := by show _ = _; rw [← HC.out, HD.out, if_pos ez]
              go_wp2_with fail
              go_ret
              exact ⟨ret_int (by rw [HE.out, if_pos HV.out]), (hb1.drewN _).drewN _⟩
            · go_wp2_with fail
              go_roundw
              case rel => exact ⟨j + 1, _, by omega, by go_num, by rw [← HC.out, HD.out, if_neg (by omega)], rfl⟩
              case measure => simp [intOf]; omega
          · have hli : ¬ (j : Int) + 1 < (p.widen.length : Int) := by omega
            have HV : Hid (riseB p.widen = true) := by
              show _ = _
              rw [← HC.out]
              match h : p.widen.drop j with
              | [] => rfl
              | [_] => rfl
              | _ :: _ :: _ => have := congrArg List.length h; simp at this; omega
            rw [if_neg (by rw [HV.out]; decide)] at HE
            have hb2 : Below w.heap.size w (W1.drewN nq) := hb1.drewN _
            clear HC HV
            by_cases e4 : 32 < p.funcs.length
            · have e4' : (32 : Int) < (p.funcs.length : Int) := by omega
              go_wp2_with fail
              go_ret
              exact ⟨ret_int (by rw [HE.out, if_pos e4]), hb2⟩
            · have e4' : ¬ (32 : Int) < (p.funcs.length : Int) := by omega
              rw [if_neg e4] at HE
              go_wp2_with fail
              refine (HN.out _ hb2).mono ?_
              rintro r w3 ⟨rfl, hbn⟩
              have hb3 : Below w.heap.size w w3 := hb2.trans (hbn.mono hb2.size)
              by_cases e5 : 4096 < nz
              · go_wp2_with fail
                go_ret
                exact ⟨ret_int (by rw [HE.out, if_pos e5]), hb3⟩
              · go_wp2_with fail
                go_ret
                exact ⟨ret_int (by rw [HE.out, if_neg (by omega)]), hb3⟩
end Go.Proofs.YtkkcgkpbbngloaaGreatDoor

/- The document's own Check: what the program's is. -/
namespace Go.Proofs.YtkkcgkpbbngloaaGreatDoor
open Go.RowKit Go.Sort

/-- The place of an answer, not written yet. -/
def ResZ (W : World) (B : Nat) : Prop := W.heap[B]? = some (.cells #[.int .i64 0, .int .i64 0, .int .i64 0] 29 (0, 0))
theorem ResZ.cell {W : World} {B : Nat} (h : ResZ W B) {j : Nat} (hj : j < 3) : W.cell? ⟨B, j, none⟩ = some (.int .i64 0) := by
  have h' : W.heap[B]? = some (.cells #[.int .i64 0, .int .i64 0, .int .i64 0] 29 (0, 0)) := h
  rw [Lib.cell_of_heap h']
  match j, hj with
  | 0, _ => rfl
  | 1, _ => rfl
  | 2, _ => rfl
theorem ResZ.frozen {W : World} {B : Nat} (h : ResZ W B) (j : Nat) : W.frozen? ⟨B, j, none⟩ = false := Lib.frozen_of_heap h _
theorem ResZ.lt {W : World} {B : Nat} (h : ResZ W B) : B < W.heap.size := (Array.getElem?_eq_some_iff.1 h).1
theorem ResZ.stay {W W' : World} {B : Nat} (h : ResZ W B) (hb : Below W.heap.size W W') : ResZ W' B := (hb.block B h.lt).trans h
theorem ResZ.only {W W' : World} {B b : Nat} (h : ResZ W B) (ho : OnlyB b W W') (hb : B ≠ b) : ResZ W' B := (ho.2.2.2.2 B h.lt hb).trans h
theorem BoxL.only {W W' : World} {B b : Nat} {cs : List Value} (h : BoxL W B cs) (ho : OnlyB b W W') (hB : B < W.heap.size) (hb : B ≠ b) : BoxL W' B cs := fun i v hi => (ho.cell hB hb).trans (h i v hi)
theorem wk_new (w : World) : Wk (w.alloc (.cells #[.int .i64 0, .int .i64 0] 66)) w.heap.size 0 0 := heap_alloc_new w _

set_option maxRecDepth 100000 in
set_option maxHeartbeats 2000000 in
theorem rcheck_any (p : Pr) (w : World) (hin : p.In w) : Calls Tryz.prog 12 #[p.val] w fun e w' => e = .returned (fltV (checkZ p).1 (checkZ p).2.1 (checkZ p).2.2) ∧ Below w.heap.size w w' := by
  have HW : Hid (∀ w', Below w.heap.size w w' → Calls Tryz.prog 18 #[p.val] w' fun e w'' => e = .returned (.int .i64 (wholeZ p)) ∧ Below w'.heap.size w' w'') := fun w' hb => head_any p w' (hin.stay hb)
  have HE : Hid (checkZ p = if wholeZ p ≠ 0 then (wholeZ p, 0, 0) else chkFs p.funcs 0) := (rfl : checkZ p = _)
  have HZ : Hid (wholeZ p = 0 → ∀ f ∈ p.funcs, ssz f.body ≤ 4096) := fun h => whole_sz h
  obtain ⟨_, _, _, _, _, hl, hc, _, hrow, hsub⟩ := hin
  have HR : Hid (RowIn w p.fa 3 (List.map Fu.cells p.funcs)) := hrow
  have HS : Hid (∀ f ∈ p.funcs, f.In w) := hsub
  clear hrow hsub
  generalize checkZ p = res at HE ⊢
  generalize wholeZ p = wz at HW HE HZ
  have hb1 := ((Below.refl _ w).alloc (Nat.le_refl _) (.cells #[.slice p.wa p.widen.length p.wc, .slice p.fa p.funcs.length p.fc] 25)).alloc (by simp) (.cells #[.int .i64 0, .int .i64 0, .int .i64 0] 29)
  unfold Pr.val at HW ⊢
  go_enter Tryz.func12, Tryz.ntmps12
  go_wp2_with fail
  refine (HW.out _ hb1).mono ?_
  rintro e w1 ⟨rfl, hbw⟩
  have HRZ : Hid (ResZ w1 (w.heap.size + 1)) := by
    refine ResZ.stay ?_ hbw
    have := heap_alloc_new (w.alloc (.cells #[.slice p.wa p.widen.length p.wc, .slice p.fa p.funcs.length p.fc] 25)) (.cells #[.int .i64 0, .int .i64 0, .int .i64 0] 29)
    rwa [World.size_alloc] at this
  have HBX : Hid (BoxL w1 w.heap.size [.slice p.wa p.widen.length p.wc, .slice p.fa p.funcs.length p.fc]) := by
    obtain ⟨hX, _, _⟩ := two_cells hbw
    exact fun j v h => hX j v (by simpa using h)
  have hb2 : Below w.heap.size w w1 := hb1.trans (hbw.mono (by simp; omega))
  have hs2 : w.heap.size + 1 + 1 ≤ w1.heap.size := by have := hbw.size; simp at this; omega
  clear hbw hb1
  cases e1 : (wz != 0)
  · have e1' : wz = 0 := by simpa using e1
    have HF : Hid (res = chkFs p.funcs 0) := (by rw [HE.out]; simp [e1'] : res = chkFs p.funcs 0)
    have HZ' : Hid (∀ f ∈ p.funcs, ssz f.body ≤ 4096) := HZ.out e1'
    clear HZ HE HW e1'
    go_wp2_with fail
    go_loopw [4] (fun t17 wr => ∃ (j : Nat), j ≤ p.funcs.length ∧ t17 = .int .i64 j ∧ chkFs (p.funcs.drop j) j = res ∧ Below w.heap.size w wr ∧ ResZ wr (w.heap.size + 1) ∧ BoxL wr w.heap.size [.slice p.wa p.widen.length p.wc, .slice p.fa p.funcs.length p.fc]) (fun t17 _ => p.funcs.length - (intOf t17).toNat)
    case atStart => exact ⟨0, Nat.zero_le _, rfl, HF.out.symm, hb2, HRZ.out, HBX.out⟩
    case round =>
      obtain ⟨j, hj, rfl, hcnt, hb, hrz, hbx⟩ := hrel
      have HC : Hid (chkFs (p.funcs.drop j) j = res) := hcnt
      have HRZ2 : Hid (ResZ wr (w.heap.size + 1)) := hrz
      have HBX2 : Hid (BoxL wr w.heap.size [.slice p.wa p.widen.length p.wc, .slice p.fa p.funcs.length p.fc]) := hbx
      have hrl := hrz.lt
      have c1 := hbx 1 _ rfl
      clear hcnt hrz hbx HRZ HBX
      by_cases hlt : j < p.funcs.length
      · obtain ⟨g, o, hfa, d0, d1, d2⟩ := rowF_at (HR.out.below hb) hlt
        have HD2 : Hid (∀ W', Below w.heap.size w W' → W'.cell? ⟨g, o + j * 3 + 2, none⟩ = some (.slice p.funcs[j].ba p.funcs[j].body.length p.funcs[j].bc)) := fun W' hb' => by
          obtain ⟨b', o', hpa', g0, g1, g2⟩ := rowF_at HR.out hlt
          rw [hfa] at hpa'
          cases hpa'
          exact (hb'.cell (p := ⟨g, o + j * 3 + 2, none⟩) (lt_of_cell g2)).trans g2
        have HFA : Hid (p.fa = some ⟨g, o, none⟩) := hfa
        rw [hfa] at c1
        clear hfa
        have hli : (j : Int) < (p.funcs.length : Int) := by omega
        have HY : Hid (p.funcs[j].In w) := HS.out p.funcs[j] (List.getElem_mem hlt)
        have HSZ : Hid (ssz p.funcs[j].body ≤ 4096) := HZ'.out p.funcs[j] (List.getElem_mem hlt)
        have HD : Hid (chkFs (p.funcs.drop j) j = if (chkF p.funcs[j]).1 ≠ 0 then ((chkF p.funcs[j]).1, (j : Int), (chkF p.funcs[j]).2) else chkFs (p.funcs.drop (j + 1)) (j + 1)) := chkFs_drop hlt
        generalize p.funcs[j] = f at *
        have HFC : Hid (Calls Tryz.prog 19 #[f.val] wr fun e w' => e = .returned (.int .i64 (headZ f)) ∧ Below wr.heap.size wr w') := face_any f wr (HY.out.stay hb)
        unfold Fu.val at HFC
        go_wp2_with fail
        refine HFC.out.mono ?_
        rintro e w2 ⟨rfl, hbf⟩
        have hb3 : Below w.heap.size w w2 := hb.trans (hbf.mono hb.size)
        have HRZ3 : Hid (ResZ w2 (w.heap.size + 1)) := HRZ2.out.stay hbf
        have HBX3 : Hid (BoxL w2 w.heap.size [.slice p.wa p.widen.length p.wc, .slice p.fa p.funcs.length p.fc]) := HBX2.out.below hbf (by omega)
        have hrl3 := HRZ3.out.lt
        have HCF : Hid (chkF f = if headZ f ≠ 0 then (headZ f, 0) else chkSs f.body 1 0) := (rfl : chkF f = _)
        clear hbf c1 d0 d1 d2 hb HRZ2 HBX2 HFC hrl
        generalize headZ f = hz at HCF ⊢
        cases eh : (hz != 0)
        · have eh' : hz = 0 := by simpa using eh
          have HCG : Hid (chkF f = chkSs f.body 1 0) := (by rw [HCF.out, if_neg (by simpa using eh')] : chkF f = _)
          rw [HCG.out] at HD
          clear HCF HCG eh'
          have hb4 : Below w2.heap.size w2 (w2.alloc (.cells #[.int .i64 0, .int .i64 0] 66)) := (Below.refl _ w2).alloc (Nat.le_refl _) _
          have hwk := wk_new w2
          have hs4 : w2.heap.size < (w2.alloc (.cells #[.int .i64 0, .int .i64 0] 66)).heap.size := by simp
          go_upto_region 11 with fail
          generalize w2.alloc (.cells #[.int .i64 0, .int .i64 0] 66) = W4 at hb4 hwk hs4 ⊢
          have hb5 : Below w.heap.size w W4 := hb3.trans (hb4.mono hb3.size)
          have HBX4 : Hid (BoxL W4 w.heap.size [.slice p.wa p.widen.length p.wc, .slice p.fa p.funcs.length p.fc]) := HBX3.out.below hb4 (by omega)
          have HRZ4 : Hid (ResZ W4 (w.heap.size + 1)) := HRZ3.out.stay hb4
          have c1 := HBX4.out 1 _ rfl
          rw [HFA.out] at c1
          have d2 := HD2.out W4 hb5
          have HAL : Hid (Calls Tryz.prog 20 #[.pointer (some ⟨w2.heap.size, 0, none⟩), .slice f.ba f.body.length f.bc, .int .i64 1] W4 fun r w' => r = .returned (.tuple #[]) ∧ Wk w' w2.heap.size (chkSs f.body 1 0).2 (chkSs f.body 1 0).1 ∧ OnlyB w2.heap.size W4 w') := wall_any w w2.heap.size hb3.size f.body f.ba f.bc W4 HY.out.2.2.2.2.2.2 hb5 hwk (by have := HSZ.out; omega)
          generalize chkSs f.body 1 0 = q at HD HAL
          obtain ⟨p1, p2⟩ := q
          simp only at HD HAL
          generalize w2.heap.size = b at *
          go_wp2_with fail
          refine HAL.out.mono ?_
          rintro r w5 ⟨rfl, hw5, ho5⟩
          have hb6 : Below w.heap.size w w5 := OnlyB.on hb5 (by omega) ho5
          have HRZ5 : Hid (ResZ w5 (w.heap.size + 1)) := HRZ4.out.only ho5 (by omega)
          have HBX5 : Hid (BoxL w5 w.heap.size [.slice p.wa p.widen.length p.wc, .slice p.fa p.funcs.length p.fc]) := HBX4.out.only ho5 (by omega) (by omega)
          have k0 := hw5.cell0
          have k1 := hw5.cell1
          have r0 := HRZ5.out.cell (j := 0) (by omega)
          have r1 := HRZ5.out.cell (j := 1) (by omega)
          have r2 := HRZ5.out.cell (j := 2) (by omega)
          have q0 := HRZ5.out.frozen 0
          have q1 := HRZ5.out.frozen 1
          have q2 := HRZ5.out.frozen 2
          clear hw5 ho5 c1 d2 HAL hwk HBX4 HRZ4 HBX3 HRZ3 hb4
          cases ep : (p1 != 0)
          · have ep' : p1 = 0 := by simpa using ep
            have HV : Hid (chkFs (p.funcs.drop (j + 1)) (j + 1) = res) := (by rw [← HC.out, HD.out, if_neg (by simpa using ep')] : _ = res)
            clear ep' HC HD
            go_wp2_with fail
            go_roundw
            case rel => exact ⟨j + 1, by omega, by go_num, HV.out, hb6, HRZ5.out, HBX5.out⟩
            case measure => simp [intOf]; omega
          · have ep' : p1 ≠ 0 := by simpa using ep
            have HG : Hid (res = (p1, (j : Int), p2)) := (by rw [← HC.out, HD.out, if_pos ep'] : res = _)
            clear HC HD ep'
            go_wp2_with fail
            go_region
            go_wp2_with fail
            refine bodyPost_ret (v := fltV p1 j p2) (by simp [results, Tryz.results12, go_sem, r0, r1, r2]) rfl ⟨?_, (below_set3 hb6 (by omega) _ _ _).drew⟩
            rw [HG.out]
        · have eh' : hz ≠ 0 := by simpa using eh
          have HG : Hid (res = (hz, (j : Int), 0)) := (by rw [← HC.out, HD.out, HCF.out, if_pos eh']; simp [eh'] : res = _)
          have r0 := HRZ3.out.cell (j := 0) (by omega)
          have r1 := HRZ3.out.cell (j := 1) (by omega)
          have r2 := HRZ3.out.cell (j := 2) (by omega)
          have q0 := HRZ3.out.frozen 0
          have q1 := HRZ3.out.frozen 1
          have q2 := HRZ3.out.frozen 2
          clear HC HD HCF eh'
          go_wp2_with fail
          refine bodyPost_ret (v := fltV hz j 0) (by simp [results, Tryz.results12, go_sem, r0, r1, r2]) rfl ⟨?_, below_set3 hb3 (by omega) _ _ _⟩
          rw [HG.out]
      · have hli : ¬ (j : Int) < (p.funcs.length : Int) := by omega
        have r0 := HRZ2.out.cell (j := 0) (by omega)
        have r1 := HRZ2.out.cell (j := 1) (by omega)
        have r2 := HRZ2.out.cell (j := 2) (by omega)
        have q0 := HRZ2.out.frozen 0
        have q1 := HRZ2.out.frozen 1
        have q2 := HRZ2.out.frozen 2
        have HG : Hid (res = (0, 0, 0)) := (by rw [← HC.out, List.drop_eq_nil_of_le (by omega), chkFs] : res = _)
        clear HC
        go_wp2_with fail
        refine bodyPost_ret (v := fltV 0 0 0) (by simp [results, Tryz.results12, go_sem, r0, r1, r2]) rfl ⟨?_, below_set3 hb (by omega) _ _ _⟩
        rw [HG.out]
  · have e1' : wz ≠ 0 := by simpa using e1
    have HG : Hid (res = (wz, 0, 0)) := (by rw [HE.out, if_pos e1'] : res = _)
    have r0 := HRZ.out.cell (j := 0) (by omega)
    have r1 := HRZ.out.cell (j := 1) (by omega)
    have r2 := HRZ.out.cell (j := 2) (by omega)
    have q0 := HRZ.out.frozen 0
    have q1 := HRZ.out.frozen 1
    have q2 := HRZ.out.frozen 2
    go_wp2_with fail
    refine bodyPost_ret (v := fltV wz 0 0) (by simp [results, Tryz.results12, go_sem, r0, r1, r2]) rfl ⟨?_, below_set3 hb2 (by omega) _ _ _⟩
    rw [HG.out]
end Go.Proofs.YtkkcgkpbbngloaaGreatDoor

/- The document's own Check of names: what the program's is. -/
namespace Go.Proofs.YtkkcgkpbbngloaaGreatDoor
open Go.RowKit Go.Sort

set_option maxRecDepth 100000 in
set_option maxHeartbeats 4000000 in
theorem rncheck_any (p : Pr) (w : World) (hin : p.In w) : Calls Tryz.prog 7 #[p.val] w fun e w' => e = .returned (fltV (namZ p).1 (namZ p).2.1 (namZ p).2.2) ∧ Below w.heap.size w w' := by
  have HC : Hid (∀ w', Below w.heap.size w w' → Calls Tryz.prog 12 #[p.val] w' fun e w'' => e = .returned (fltV (checkZ p).1 (checkZ p).2.1 (checkZ p).2.2) ∧ Below w'.heap.size w' w'') := fun w' hb => rcheck_any p w' (hin.stay hb)
  have HL : Hid ((checkZ p).1 = 0 → ∀ (k : Nat) (hk : k < p.funcs.length) w', Below w.heap.size w w' → (∀ (j : Nat) (f : Fu), j < k → p.funcs[j]? = some f → (fnK p.funcs j f).e = 0) → Calls Tryz.prog 13 #[p.val, .int .i64 k] w' (LkR p k (fnK p.funcs k p.funcs[k]) w')) := fun h0 k hk w' hb ha => rlook_any p k w' (hin.stay hb) h0 hk ha
  have HE : Hid (namZ p = if (checkZ p).1 ≠ 0 then checkZ p else lkZ p.funcs p.funcs 0) := (rfl : namZ p = _)
  have HN : Hid ((checkZ p).1 = 0 → p.funcs.length ≤ 32) := fun h => (check_room h).1
  clear hin
  generalize namZ p = res at HE ⊢
  generalize checkZ p = cz at HC HE HL HN
  obtain ⟨c1, c2, c3⟩ := cz
  simp only at HC HE HL HN
  have hb1 := ((Below.refl _ w).alloc (Nat.le_refl _) (.cells #[.slice p.wa p.widen.length p.wc, .slice p.fa p.funcs.length p.fc] 25)).alloc (by simp) (.cells #[.int .i64 0, .int .i64 0, .int .i64 0] 29)
  unfold Pr.val at HC HL ⊢
  go_enter Tryz.func7, Tryz.ntmps7
  go_wp2_with fail
  refine (HC.out _ hb1).mono ?_
  rintro e w1 ⟨rfl, hbw⟩
  obtain ⟨hX, hRs, hF⟩ := two_cells hbw
  have hb2 : Below w.heap.size w w1 := hb1.trans (hbw.mono (by simp; omega))
  have hs2 : w.heap.size + 1 + 1 ≤ w1.heap.size := by have := hbw.size; simp at this; omega
  have HST : Hid (∀ W', Below w1.heap.size w1 W' → Below w.heap.size w W' ∧ W'.cell? ⟨w.heap.size, 0, none⟩ = some (.slice p.wa p.widen.length p.wc) ∧ W'.cell? ⟨w.heap.size, 1, none⟩ = some (.slice p.fa p.funcs.length p.fc) ∧ W'.cell? ⟨w.heap.size + 1, 0, none⟩ = some (.int .i64 0) ∧ W'.cell? ⟨w.heap.size + 1, 1, none⟩ = some (.int .i64 0) ∧ W'.cell? ⟨w.heap.size + 1, 2, none⟩ = some (.int .i64 0) ∧ W'.frozen? ⟨w.heap.size + 1, 0, none⟩ = false ∧ W'.frozen? ⟨w.heap.size + 1, 1, none⟩ = false ∧ W'.frozen? ⟨w.heap.size + 1, 2, none⟩ = false) := fun W' hb => by
    have h1 : w.heap.size < w1.heap.size := by omega
    have h2 : w.heap.size + 1 < w1.heap.size := by omega
    exact ⟨hb2.trans (hb.mono hb2.size), (hb.cell (p := ⟨w.heap.size, 0, none⟩) h1).trans (hX 0 _ rfl), (hb.cell (p := ⟨w.heap.size, 1, none⟩) h1).trans (hX 1 _ rfl), (hb.cell (p := ⟨w.heap.size + 1, 0, none⟩) h2).trans (hRs 0 _ rfl), (hb.cell (p := ⟨w.heap.size + 1, 1, none⟩) h2).trans (hRs 1 _ rfl), (hb.cell (p := ⟨w.heap.size + 1, 2, none⟩) h2).trans (hRs 2 _ rfl), (hb.frozen (p := ⟨w.heap.size + 1, 0, none⟩) h2).trans (hF 0), (hb.frozen (p := ⟨w.heap.size + 1, 1, none⟩) h2).trans (hF 1), (hb.frozen (p := ⟨w.heap.size + 1, 2, none⟩) h2).trans (hF 2)⟩
  clear hX hRs hF hbw hb1 HC hb2
  have hb4 := (Below.refl _ w1).alloc (Nat.le_refl _) (.cells #[.int .i64 c1, .int .i64 c2, .int .i64 c3] 29)
  have n0 : (w1.alloc (.cells #[.int .i64 c1, .int .i64 c2, .int .i64 c3] 29)).cell? ⟨w1.heap.size, 0, none⟩ = some (.int .i64 c1) := by rw [World.cell?_alloc_at _ _ _ _ rfl]; rfl
  have n1 : (w1.alloc (.cells #[.int .i64 c1, .int .i64 c2, .int .i64 c3] 29)).cell? ⟨w1.heap.size, 1, none⟩ = some (.int .i64 c2) := by rw [World.cell?_alloc_at _ _ _ _ rfl]; rfl
  have n2 : (w1.alloc (.cells #[.int .i64 c1, .int .i64 c2, .int .i64 c3] 29)).cell? ⟨w1.heap.size, 2, none⟩ = some (.int .i64 c3) := by rw [World.cell?_alloc_at _ _ _ _ rfl]; rfl
  have HB4 := Hid.mk' hb4
  clear hb4
  go_upto_region 2 with fail
  generalize w1.alloc (.cells #[.int .i64 c1, .int .i64 c2, .int .i64 c3] 29) = W2 at *
  cases e1 : (c1 != 0)
  · have e1' : c1 = 0 := by simpa using e1
    have HF : Hid (res = lkZ p.funcs p.funcs 0) := (by rw [HE.out, if_neg (by simp [e1'])] : res = _)
    have HL2 := Hid.mk' (HL.out e1')
    have hn32 := HN.out e1'
    clear HL HE HN e1'
    go_wp2_with fail
    go_loopw [4] (fun t4 wr => ∃ j : Nat, j ≤ p.funcs.length ∧ t4 = .int .i64 j ∧ lkZ p.funcs (p.funcs.drop j) j = res ∧ (∀ (i : Nat) (f : Fu), i < j → p.funcs[i]? = some f → (fnK p.funcs i f).e = 0) ∧ Below w1.heap.size w1 wr) (fun t4 _ => p.funcs.length - (intOf t4).toNat)
    case atStart => exact ⟨0, Nat.zero_le _, rfl, by rw [HF.out]; rfl, fun i f hi => by omega, HB4.out⟩
    case round =>
      obtain ⟨j, hj, rfl, h1, h2, h3⟩ := hrel
      have HX := Hid.mk' (And.intro h1 (And.intro h2 h3))
      obtain ⟨hbw, p0, p1, r0, r1, r2, q0, q1, q2⟩ := HST.out wr h3
      clear h1 h2 h3 n0 n1 n2
      by_cases hlt : j < p.funcs.length
      · have hli : (j : Int) < (p.funcs.length : Int) := by omega
        have HLK := Hid.mk' (HL2.out j hlt wr hbw HX.out.2.1)
        have HD : Hid (lkZ p.funcs (p.funcs.drop j) j = if (fnK p.funcs j p.funcs[j]).e ≠ 0 then ((fnK p.funcs j p.funcs[j]).e, (j : Int), (fnK p.funcs j p.funcs[j]).m) else lkZ p.funcs (p.funcs.drop (j + 1)) (j + 1)) := lkZ_drop hlt
        have HGJ : Hid (p.funcs[j]? = some p.funcs[j]) := List.getElem?_eq_getElem hlt
        have HFJ : Hid (∀ f, p.funcs[j]? = some f → fnK p.funcs j f = fnK p.funcs j p.funcs[j]) := fun f hf => by rw [HGJ.out] at hf; rw [Option.some.inj hf]
        generalize fnK p.funcs j p.funcs[j] = R at *
        clear hbw r0 r1 r2 q0 q1 q2
        go_wp2_with fail
        refine HLK.out.mono ?_
        rintro e w5 ⟨hb5, g, rfl, _⟩
        have hb6 := HX.out.2.2.trans (hb5.mono HX.out.2.2.size)
        clear hb5 HLK p0 p1
        cases er : (R.e != 0)
        · have er' : R.e = 0 := by simpa using er
          have HV : Hid (lkZ p.funcs (p.funcs.drop (j + 1)) (j + 1) = res ∧ ∀ (i : Nat) (f : Fu), i < j + 1 → p.funcs[i]? = some f → (fnK p.funcs i f).e = 0) := by
            refine ⟨by rw [← HX.out.1, HD.out, if_neg (by simpa using er')], fun i f hi hf => ?_⟩
            by_cases e : i = j
            · subst e; rw [HFJ.out f hf]; exact er'
            · exact HX.out.2.1 i f (by omega) hf
          have hb7 := hb6.alloc hb6.size (.cells #[.int .i64 0, .int .i64 0, .int .i64 0] 29)
          rw [if_neg (by simpa using er')]
          clear er'
          go_wp2_with fail
          go_roundw
          case rel => exact ⟨j + 1, by omega, by go_num, HV.out.1, HV.out.2, hb7⟩
          case measure => simp [intOf]; omega
        · have er' : R.e ≠ 0 := by simpa using er
          have HG : Hid (res = (R.e, (j : Int), R.m)) := by show _ = _; rw [← HX.out.1, HD.out, if_pos er']
          rw [if_pos er']
          clear er'
          have hb7 := hb6.alloc hb6.size (.cells #[.int .i64 R.e, .int .i64 j, .int .i64 R.m] 29)
          have n0 : (w5.alloc (.cells #[.int .i64 R.e, .int .i64 j, .int .i64 R.m] 29)).cell? ⟨w5.heap.size, 0, none⟩ = some (.int .i64 R.e) := by rw [World.cell?_alloc_at _ _ _ _ rfl]; rfl
          have n1 : (w5.alloc (.cells #[.int .i64 R.e, .int .i64 j, .int .i64 R.m] 29)).cell? ⟨w5.heap.size, 1, none⟩ = some (.int .i64 j) := by rw [World.cell?_alloc_at _ _ _ _ rfl]; rfl
          have n2 : (w5.alloc (.cells #[.int .i64 R.e, .int .i64 j, .int .i64 R.m] 29)).cell? ⟨w5.heap.size, 2, none⟩ = some (.int .i64 R.m) := by rw [World.cell?_alloc_at _ _ _ _ rfl]; rfl
          obtain ⟨hbw, _, _, r0, r1, r2, q0, q1, q2⟩ := HST.out _ hb7
          clear hb7 hb6
          go_upto_region 8 with fail
          generalize w5.alloc (.cells #[.int .i64 R.e, .int .i64 j, .int .i64 R.m] 29) = W6 at *
          go_wp2_with fail
          refine bodyPost_ret (v := fltV R.e j R.m) (by simp [results, Tryz.results7, go_sem, r0, r1, r2]) rfl ⟨?_, below_set3 hbw (by omega) _ _ _⟩
          rw [HG.out]
      · have hli : ¬ (j : Int) < (p.funcs.length : Int) := by omega
        have HG : Hid (res = (0, 0, 0)) := by show _ = _; rw [← HX.out.1, List.drop_eq_nil_of_le (by omega), lkZ]
        go_wp2_with fail
        refine bodyPost_ret (v := fltV 0 0 0) (by simp [results, Tryz.results7, go_sem, r0, r1, r2]) rfl ⟨?_, below_set3 hbw (by omega) _ _ _⟩
        rw [HG.out]
  · have e1' : c1 ≠ 0 := by simpa using e1
    have HG : Hid (res = (c1, c2, c3)) := (by rw [HE.out, if_pos e1'] : res = _)
    clear HE HN HL e1'
    obtain ⟨hbw, _, _, r0, r1, r2, q0, q1, q2⟩ := HST.out _ HB4.out
    go_wp2_with fail
    refine bodyPost_ret (v := fltV c1 c2 c3) (by simp [results, Tryz.results7, go_sem, r0, r1, r2]) rfl ⟨?_, below_set3 hbw (by omega) _ _ _⟩
    rw [HG.out]
end Go.Proofs.YtkkcgkpbbngloaaGreatDoor

/- The walker of one function, whole, from its beginning on; the rows of those that are called. -/
namespace Go.Proofs.YtkkcgkpbbngloaaGreatDoor
open Go.RowKit Go.Sort

/-- A walker as it begins. -/
theorem ws_begin {N fm : Nat} {W : World} {ft : List (List UInt8 × Int)} (h : Tab W fm ft) (hN : N ≤ fm) :
    WS N (W.alloc (.cells #[.pointer none, .map (some fm), .int .i64 0, .slice none 0 0] 61)) W.heap.size fm none [] [] ft 0 (.slice none 0 0) [] := by
  have hl := h.lt
  refine ⟨heap_alloc_new _ _, rfl, h.stay ((Below.refl _ W).alloc (Nat.le_refl _) _), ⟨rfl, .inl ⟨rfl, rfl⟩⟩, ?_, fun g hg => ?_, fun g hg => ?_⟩
  · simp only [chB, List.nodup_cons, List.mem_cons, List.not_mem_nil, or_false, not_false_eq_true, List.nodup_nil, and_true]
    omega
  · simp [ob, Value.ownBlock] at hg
  · simp only [chB, List.mem_cons, List.not_mem_nil, or_false] at hg
    omega
theorem nfn_any (w0 : World) (b fm : Nat) (ft : List (List UInt8 × Int)) (f : Fu) (w : World) (hin : f.In w0) (hB : Below w0.heap.size w0 w) (hw : WS w0.heap.size w b fm none [] [] ft 0 (.slice none 0 0) []) (h1 : qSs f.body ≤ 12288) (h2 : f.params.length ≤ 8) :
    Calls Tryz.prog 17 #[.pointer (some ⟨b, 0, none⟩), f.val] w fun e w' => e = .returned (.int .i64 (fnS ft f).e) ∧ ∃ a' bs' v' cs', WS w0.heap.size w' b fm a' bs' (fnS ft f).env ft (fnS ft f).m v' cs' ∧ ((fnS ft f).e = 0 → cs' = (fnS ft f).c) ∧ Fr [b] w w' ∧ ∀ g ∈ ob v', w.heap.size ≤ g := by
  cases hh : tabHas ft f.name.data.toList
  · refine (nfn_new w0 b fm ft f _ [] w hin hB hw hh (by simp only [List.length_nil]; omega) (by omega)).mono ?_
    rintro e w' ⟨rfl, a', bs', v', cs', k1, k2, k3, k4⟩
    refine ⟨rfl, a', bs', v', cs', k1, fun h => by simpa using k2 h, k3, fun g hg => ?_⟩
    rcases k4 g hg with h | h
    · simp [ob, Value.ownBlock] at h
    · exact h
  · refine (nfn_twice w0 b fm ft f _ [] w hin.1 hw hh).mono ?_
    rintro e w' ⟨rfl, k1, k2⟩
    have hr : fnS ft f = ⟨9, 0, [], []⟩ := by rw [fnS, if_pos hh]
    rw [hr]
    exact ⟨rfl, none, [], _, [], k1, fun h => absurd h (by decide), Fr.of_below k2, fun g hg => by simp [ob, Value.ownBlock] at hg⟩

/-- The rows of those that the first k functions call, in a block of their own. -/
def RowsAt (N : Nat) (W : World) (fm cb : Nat) (fs : List Fu) (k : Nat) (vs : List Value) : Prop :=
  W.heap[cb]? = some (.cells vs.toArray 32 (0, 0)) ∧ vs.length = fs.length ∧ (∀ j, j < fs.length → k ≤ j → vs[j]? = some (.slice none 0 0)) ∧
  ∀ j f, fs[j]? = some f → j < k → ∃ v, vs[j]? = some v ∧ W.ownsRow N 3 1 v (fnK fs j f).c.length ((fnK fs j f).c.map (Value.int .i64)) ∧ fm ∉ ob v ∧ cb ∉ ob v
theorem RowsAt.lt {N : Nat} {W : World} {fm cb : Nat} {fs : List Fu} {k : Nat} {vs : List Value} (h : RowsAt N W fm cb fs k vs) : cb < W.heap.size := (Array.getElem?_eq_some_iff.1 h.1).1
theorem RowsAt.on {N : Nat} {W W' : World} {fm cb : Nat} {fs : List Fu} {k : Nat} {vs : List Value} (h : RowsAt N W fm cb fs k vs) (hc : cb ≠ fm) (hk : ∀ g, g < W.heap.size → g ≠ fm → W'.heap[g]? = W.heap[g]?) : RowsAt N W' fm cb fs k vs := by
  refine ⟨(hk cb h.lt hc).trans h.1, h.2.1, h.2.2.1, fun j f hf hj => ?_⟩
  obtain ⟨v, e1, e2, e3, e4⟩ := h.2.2.2 j f hf hj
  exact ⟨v, e1, own_keep e2 (fun g hg => hk g (own_lt e2 g hg).2 (fun e => e3 (e ▸ hg))), e3, e4⟩
theorem RowsAt.cell {N : Nat} {W : World} {fm cb : Nat} {fs : List Fu} {k : Nat} {vs : List Value} (h : RowsAt N W fm cb fs k vs) {j : Nat} {v : Value} (hv : vs[j]? = some v) : W.cell? ⟨cb, j, none⟩ = some v := by
  rw [Lib.cell_of_heap h.1]; simpa using hv
theorem RowsAt.frozen {N : Nat} {W : World} {fm cb : Nat} {fs : List Fu} {k : Nat} {vs : List Value} (h : RowsAt N W fm cb fs k vs) (j : Nat) : W.frozen? ⟨cb, j, none⟩ = false := Lib.frozen_of_heap h.1 _
theorem RowsAt.put {N : Nat} {W : World} {fm cb : Nat} {fs : List Fu} {k : Nat} {vs : List Value} (h : RowsAt N W fm cb fs k vs) (hk : k < fs.length) {v : Value} (ho : W.ownsRow N 3 1 v (fnK fs k fs[k]).c.length ((fnK fs k fs[k]).c.map (Value.int .i64))) (h1 : fm ∉ ob v) (h2 : cb ∉ ob v) :
    RowsAt N (W.setCell ⟨cb, k, none⟩ v) fm cb fs (k + 1) (vs.set k v) := by
  have hkv : k < vs.length := by rw [h.2.1]; exact hk
  have stay : ∀ u : Value, cb ∉ ob u → ∀ g ∈ ob u, (W.setCell ⟨cb, k, none⟩ v).heap[g]? = W.heap[g]? := fun u hu g hg => Below.heap_setCell _ _ _ _ (fun e => hu (by have e' : g = cb := e; rw [← e']; exact hg))
  refine ⟨?_, by rw [List.length_set]; exact h.2.1, fun j hj hkj => ?_, fun j f hf hj => ?_⟩
  · have h' := h.1
    simp [World.setCell, Array.getElem?_modify, h']
  · rw [List.getElem?_set_ne (by omega)]
    exact h.2.2.1 j hj (by omega)
  · by_cases e : j = k
    · subst e
      have : f = fs[j] := by rw [List.getElem?_eq_getElem hk] at hf; exact (Option.some.inj hf).symm
      subst this
      exact ⟨v, List.getElem?_set_self hkv, own_keep ho (stay v h2), h1, h2⟩
    · obtain ⟨u, e1, e2, e3, e4⟩ := h.2.2.2 j f hf (by omega)
      exact ⟨u, by rw [List.getElem?_set_ne (by omega)]; exact e1, own_keep e2 (stay u e4), e3, e4⟩
theorem own_base {W : World} {N N' n : Nat} {v : Value} {xs : List Value} (h : W.ownsRow N 3 1 v n xs) (hk : ∀ g ∈ ob v, N' ≤ g) : W.ownsRow N' 3 1 v n xs := by
  refine ⟨h.1, ?_⟩
  rcases h.2 with h0 | ⟨g', cap, cur, rfl, h1, h2, h3⟩
  · exact .inl h0
  · exact .inr ⟨g', cap, cur, rfl, hk g' (by simp [ob, Value.ownBlock]), h2, h3⟩
theorem RowsAt.lower {N N' : Nat} {W : World} {fm cb : Nat} {fs : List Fu} {k : Nat} {vs : List Value} (h : RowsAt N W fm cb fs k vs) (hN : N' ≤ N) : RowsAt N' W fm cb fs k vs := by
  refine ⟨h.1, h.2.1, h.2.2.1, fun j f hf hj => ?_⟩
  obtain ⟨v, e1, e2, e3, e4⟩ := h.2.2.2 j f hf hj
  exact ⟨v, e1, own_base e2 (fun g hg => Nat.le_trans hN (own_lt e2 g hg).1), e3, e4⟩
theorem RowsAt.set {N : Nat} {W : World} {fm cb : Nat} {fs : List Fu} {k : Nat} {vs : List Value} (h : RowsAt N W fm cb fs k vs) {b : Nat} (hb : b < N) (hc : b ≠ cb) (i : Nat) (u : Value) : RowsAt N (W.setCell ⟨b, i, none⟩ u) fm cb fs k vs := by
  refine ⟨(Below.heap_setCell _ _ _ _ (fun e => hc e.symm)).trans h.1, h.2.1, h.2.2.1, fun j f hf hj => ?_⟩
  obtain ⟨v, e1, e2, e3, e4⟩ := h.2.2.2 j f hf hj
  exact ⟨v, e1, own_keep e2 (fun g hg => Below.heap_setCell _ _ _ _ (fun e => by have e' : g = b := e; have := (own_lt e2 g hg).1; omega)), e3, e4⟩
end Go.Proofs.YtkkcgkpbbngloaaGreatDoor

/- names.look: what is wrong first, or whom each function calls. -/
namespace Go.Proofs.YtkkcgkpbbngloaaGreatDoor
open Go.RowKit Go.Sort

/-- What names.look answers. -/
def LkP (p : Pr) (w : World) (e : Ending) (w' : World) : Prop := Below w.heap.size w w' ∧
  ((namZ p).1 ≠ 0 → e = .returned (.tuple #[.slice none 0 0, fltV (namZ p).1 (namZ p).2.1 (namZ p).2.2])) ∧
  ((namZ p).1 = 0 → namZ p = (0, 0, 0) ∧ ∃ fm cb vs, e = .returned (.tuple #[.slice (some ⟨cb, 0, none⟩) p.funcs.length p.funcs.length, fltV 0 0 0]) ∧ w.heap.size ≤ cb ∧ cb ≠ fm ∧ RowsAt w.heap.size w' fm cb p.funcs p.funcs.length vs)

theorem Tryz.infoRow : (Tryz.prog.info? 32).map (fun i => (i.zero, i.size, i.bytes)) = some (some (.slice none 0 0), 1, 24) := by kernel_rfl
theorem make_rows (W : World) (n : Nat) (h : n ≤ 1000) : (Instr.makeSlice 46 (.int .i64 n) (.int .i64 n)).run Tryz.prog W = .ok (.slice (some ⟨W.heap.size, 0, none⟩) n n) (W.alloc (.cells (Array.replicate n (.slice none 0 0)) 32)) := by
  have hi := Tryz.infoRow
  cases hq : Tryz.prog.info? 32 with
  | none => rw [hq] at hi; cases hi
  | some i =>
    rw [hq] at hi
    simp only [Option.map_some, Option.some.injEq, Prod.mk.injEq] at hi
    obtain ⟨e1, e2, e3⟩ := hi
    have hr := run_makeSlice (P := Tryz.prog) W 46 32 i _ Tryz.underlying46 hq e1 .i64 .i64 n n (by omega) (Int.le_refl _) (by rw [e2]; simp; omega) (by rw [e3]; omega) (by omega)
    rw [hr, e2]
    simp only [Int.toNat_natCast, Nat.mul_one]
    have : madeCells (Value.slice none 0 0).cells n = (Array.replicate n (Value.slice none 0 0)) := by
      apply Array.ext
      · simp [madeCells]
      · intro j h1 h2
        simp [madeCells, Value.cells, Nat.mod_one]
    rw [this]
/-- The world ahead of the first function. -/
theorem look_start (w1 : World) (N : Nat) (fs : List Fu) (o : Obj) :
    Tab (((w1.alloc o).alloc (.map #[] 0)).alloc (.cells (Array.replicate fs.length (.slice none 0 0)) 32)) (w1.heap.size + 1) [] ∧ RowsAt N (((w1.alloc o).alloc (.map #[] 0)).alloc (.cells (Array.replicate fs.length (.slice none 0 0)) 32)) (w1.heap.size + 1) (w1.heap.size + 1 + 1) fs 0 (List.replicate fs.length (.slice none 0 0)) ∧
      Below w1.heap.size w1 (((w1.alloc o).alloc (.map #[] 0)).alloc (.cells (Array.replicate fs.length (.slice none 0 0)) 32)) ∧ (((w1.alloc o).alloc (.map #[] 0)).alloc (.cells (Array.replicate fs.length (.slice none 0 0)) 32)).heap.size = w1.heap.size + 3 := by
  refine ⟨?_, ⟨?_, by simp, fun j hj _ => by simp [hj], fun j f _ hj => by omega⟩, ?_, by simp⟩
  · have := tab_made (w1.alloc o)
    rw [World.size_alloc] at this
    exact this.stay ((Below.refl _ _).alloc (Nat.le_refl _) _)
  · have := heap_alloc_new ((w1.alloc o).alloc (.map #[] 0)) (.cells (Array.replicate fs.length (.slice none 0 0)) 32)
    rw [World.size_alloc, World.size_alloc] at this
    rw [this]; simp
  · exact (((Below.refl _ w1).alloc (Nat.le_refl _) _).alloc (by simp) _).alloc (by simp; omega) _

set_option maxRecDepth 100000 in
set_option maxHeartbeats 4000000 in
theorem look_any (p : Pr) (w : World) (hin : p.In w) (ht : Tabs w) : Calls Tryz.prog 11 #[p.val] w (LkP p w) := by
  have HC : Hid (∀ w', Below w.heap.size w w' → Calls Tryz.prog 16 #[p.val] w' fun e w'' => e = .returned (fltV (checkZ p).1 (checkZ p).2.1 (checkZ p).2.2) ∧ Below w'.heap.size w' w'') := fun w' hb => check_any p w' (hin.stay hb) (ht.stay hb)
  have HE : Hid (namZ p = if (checkZ p).1 ≠ 0 then checkZ p else lkZ p.funcs p.funcs 0) := (rfl : namZ p = _)
  have HZ : Hid ((checkZ p).1 = 0 → p.funcs.length ≤ 32 ∧ ∀ f ∈ p.funcs, qSs f.body ≤ 12288 ∧ f.params.length ≤ 8) := fun h => check_room h
  obtain ⟨_, _, _, _, _, hl, hc, _, hrow, hsub⟩ := hin
  have HR : Hid (RowIn w p.fa 3 (List.map Fu.cells p.funcs)) := hrow
  have HS : Hid (∀ f ∈ p.funcs, f.In w) := hsub
  clear ht hrow hsub
  have HK : Hid (∀ e w', (Below w.heap.size w w' ∧ ((namZ p).1 ≠ 0 → e = .returned (.tuple #[.slice none 0 0, fltV (namZ p).1 (namZ p).2.1 (namZ p).2.2])) ∧
    ((namZ p).1 = 0 → namZ p = (0, 0, 0) ∧ ∃ fm cb vs, e = .returned (.tuple #[.slice (some ⟨cb, 0, none⟩) p.funcs.length p.funcs.length, fltV 0 0 0]) ∧ w.heap.size ≤ cb ∧ cb ≠ fm ∧ RowsAt w.heap.size w' fm cb p.funcs p.funcs.length vs)) → LkP p w e w') := fun e w' h => h
  generalize LkP p w = Q at HK ⊢
  generalize namZ p = res at HE HK
  generalize checkZ p = cz at HC HE HZ
  obtain ⟨c1, c2, c3⟩ := cz
  simp only at HC HE HZ
  have hb1 := ((Below.refl _ w).alloc (Nat.le_refl _) (.cells #[.slice p.wa p.widen.length p.wc, .slice p.fa p.funcs.length p.fc] 25)).alloc (by simp) (.cells #[.int .i64 0, .int .i64 0, .int .i64 0] 29)
  unfold Pr.val at HC ⊢
  go_enter Tryz.func11, Tryz.ntmps11
  go_wp2_with fail
  refine (HC.out _ hb1).mono ?_
  rintro e w1 ⟨rfl, hbw⟩
  obtain ⟨hX, hRs, hF⟩ := two_cells hbw
  have r0 := hRs 0 _ rfl
  have r1 := hRs 1 _ rfl
  have r2 := hRs 2 _ rfl
  have q0 := hF 0
  have q1 := hF 1
  have q2 := hF 2
  have c1' := hX 1 _ rfl
  have hb2 : Below w.heap.size w w1 := hb1.trans (hbw.mono (by simp; omega))
  have hs2 : w.heap.size + 1 + 1 ≤ w1.heap.size := by have := hbw.size; simp at this; omega
  clear hX hRs hF hbw hb1 HC
  cases e1 : (c1 != 0)
  · have e1' : c1 = 0 := by simpa using e1
    have HF : Hid (res = lkZ p.funcs p.funcs 0) := (by rw [HE.out, if_neg (by simp [e1'])] : res = _)
    obtain ⟨hn32, hrm⟩ := HZ.out e1'
    have HRM := Hid.mk' hrm
    clear HZ HE e1' hrm
    have hmm := @run_makeMap Tryz.prog
    have hms := fun W => make_rows W p.funcs.length (by omega)
    have c2' : ∀ A B, ((w1.alloc A).alloc B).cell? ⟨w.heap.size, 1, none⟩ = some (.slice p.fa p.funcs.length p.fc) := fun A B => by
      rw [World.cell?_alloc_past _ _ _ (by simp; omega), World.cell?_alloc_past _ _ _ (by show w.heap.size < w1.heap.size; omega)]; exact c1'
    have c3' : ∀ A B C, (((w1.alloc A).alloc B).alloc C).cell? ⟨w.heap.size, 1, none⟩ = some (.slice p.fa p.funcs.length p.fc) := fun A B C => by
      rw [World.cell?_alloc_past _ _ _ (by simp; omega)]; exact c2' A B
    obtain ⟨HT0, HR0, HB0, HS0⟩ := look_start w1 (w.heap.size + 1 + 1) p.funcs (.cells #[.int .i64 c1, .int .i64 c2, .int .i64 c3] 29)
    have HT0 := Hid.mk' HT0
    have HR0 := Hid.mk' HR0
    have HB0 := Hid.mk' HB0
    have HS0 := Hid.mk' HS0
    go_upto_region 7 with fail
    clear c2' c3' hms hmm c1'
    have hlt1 : w.heap.size + 1 < w1.heap.size := by omega
    have HRES : Hid (∀ W', Fr [w1.heap.size + 1, w1.heap.size + 1 + 1] (((w1.alloc (.cells #[.int .i64 c1, .int .i64 c2, .int .i64 c3] 29)).alloc (.map #[] 0)).alloc (.cells (Array.replicate p.funcs.length (.slice none 0 0)) 32)) W' →
        Below w.heap.size w W' ∧ W'.cell? ⟨w.heap.size + 1, 0, none⟩ = some (.int .i64 0) ∧ W'.cell? ⟨w.heap.size + 1, 1, none⟩ = some (.int .i64 0) ∧ W'.cell? ⟨w.heap.size + 1, 2, none⟩ = some (.int .i64 0) ∧ W'.frozen? ⟨w.heap.size + 1, 0, none⟩ = false ∧ W'.frozen? ⟨w.heap.size + 1, 1, none⟩ = false ∧ W'.frozen? ⟨w.heap.size + 1, 2, none⟩ = false) := fun W' hf => by
      have hx : w.heap.size + 1 ∉ [w1.heap.size + 1, w1.heap.size + 1 + 1] := by simp; omega
      have hb3 : Below w1.heap.size w1 W' := HB0.out.trans (hf.below (fun k hk => by simp at hk; omega) HB0.out.size)
      exact ⟨hb2.trans (hb3.mono hb2.size), (hb3.cell hlt1).trans r0, (hb3.cell hlt1).trans r1, (hb3.cell hlt1).trans r2, (hb3.frozen hlt1).trans q0, (hb3.frozen hlt1).trans q1, (hb3.frozen hlt1).trans q2⟩
    have HSZ5 : Hid (w.heap.size + 1 + 1 ≤ w1.heap.size + 3) := by show _ ≤ _; omega
    rw [← HS0.out] at HSZ5
    clear r0 r1 r2 q0 q1 q2 hb2
    generalize ((w1.alloc (.cells #[.int .i64 c1, .int .i64 c2, .int .i64 c3] 29)).alloc (.map #[] 0)).alloc (.cells (Array.replicate p.funcs.length (.slice none 0 0)) 32) = W5 at *
    have HN : Hid (w1.heap.size + 1 + 1 ≠ w1.heap.size + 1 ∧ w.heap.size ≤ w1.heap.size + 1 ∧ w.heap.size ≤ w1.heap.size + 1 + 1 ∧ w.heap.size + 1 ≠ w1.heap.size + 1 ∧ w.heap.size + 1 ≠ w1.heap.size + 1 + 1) := ⟨by omega, by omega, by omega, by omega, by omega⟩
    generalize w1.heap.size + 1 + 1 = cb at *
    generalize w1.heap.size + 1 = fm at *
    clear HB0 HS0 hlt1 hs2
    go_wp2_with fail
    go_loopw [25] (fun t25 wr => ∃ (j : Nat) (vs : List Value), j ≤ p.funcs.length ∧ t25 = .int .i64 j ∧ lkZ p.funcs (p.funcs.drop j) j = res ∧ Fr [fm, cb] W5 wr ∧ Tab wr fm (ftK p.funcs j) ∧ RowsAt (w.heap.size + 1 + 1) wr fm cb p.funcs j vs) (fun t25 _ => p.funcs.length - (intOf t25).toNat)
    case atStart => exact ⟨0, _, Nat.zero_le _, rfl, by rw [HF.out]; rfl, Fr.refl _ _, HT0.out, HR0.out⟩
    case round =>
      obtain ⟨j, vs, hj, rfl, h1, h2, h3, h4⟩ := hrel
      have HX := Hid.mk' (And.intro h1 (And.intro h2 (And.intro h3 h4)))
      clear h1 h2 h3 h4
      by_cases hlt : j < p.funcs.length
      · have hb3 := (HRES.out _ HX.out.2.1).1
        have HSW : Hid (w.heap.size + 1 + 1 ≤ wr.heap.size) := Nat.le_trans HSZ5.out HX.out.2.1.size
        have hrw := HR.out.below hb3
        obtain ⟨b, o, hfa, c0, c1, c2⟩ := rowF_at hrw hlt
        rw [hfa]
        clear hrw hfa
        have hli : (j : Int) < (p.funcs.length : Int) := by omega
        have HY : Hid (p.funcs[j].In w) := HS.out p.funcs[j] (List.getElem_mem hlt)
        have HSZ := Hid.mk' (HRM.out p.funcs[j] (List.getElem_mem hlt))
        have HD : Hid (lkZ p.funcs (p.funcs.drop j) j = if (fnK p.funcs j p.funcs[j]).e ≠ 0 then ((fnK p.funcs j p.funcs[j]).e, (j : Int), (fnK p.funcs j p.funcs[j]).m) else lkZ p.funcs (p.funcs.drop (j + 1)) (j + 1)) := lkZ_drop hlt
        have HFT : Hid (ftK p.funcs (j + 1) = (p.funcs[j].name.data.toList, (j : Int)) :: ftK p.funcs j) := ftK_succ hlt
        have HPUT : Hid (∀ W v, RowsAt (w.heap.size + 1 + 1) W fm cb p.funcs j vs → W.ownsRow (w.heap.size + 1 + 1) 3 1 v (fnK p.funcs j p.funcs[j]).c.length ((fnK p.funcs j p.funcs[j]).c.map (Value.int .i64)) → fm ∉ ob v → cb ∉ ob v → RowsAt (w.heap.size + 1 + 1) (W.setCell ⟨cb, j, none⟩ v) fm cb p.funcs (j + 1) (vs.set j v)) := fun W v h1 h2 h3 h4 => h1.put hlt h2 h3 h4
        have HNIL : Hid (vs[j]? = some (.slice none 0 0)) := HX.out.2.2.2.2.2.1 j hlt (Nat.le_refl _)
        have HFK : Hid (fnK p.funcs j p.funcs[j] = fnS (ftK p.funcs j) p.funcs[j]) := rfl
        generalize p.funcs[j] = f at *
        generalize fnK p.funcs j f = R at *
        have hb4 := (hb3.alloc hb3.size (.cells #[.string f.name, .slice f.pa f.params.length f.pc, .slice f.ba f.body.length f.bc] 38))
        have hb4' := (Below.refl _ wr).alloc (Nat.le_refl _) (.cells #[.string f.name, .slice f.pa f.params.length f.pc, .slice f.ba f.body.length f.bc] 38)
        have HWS := Hid.mk' (ws_begin (N := w.heap.size) (HX.out.2.2.1.stay hb4') HN.out.2.1)
        have hb5 := hb4.alloc hb4.size (.cells #[.pointer none, .map (some fm), .int .i64 0, .slice none 0 0] 61)
        have HFN := Hid.mk' (nfn_any w _ fm (ftK p.funcs j) f _ HY.out hb5 HWS.out HSZ.out.1 HSZ.out.2)
        have HB5 := Hid.mk' hb5
        clear hb4 hb4' hb5 hb3
        rw [← HFK.out] at HFN
        unfold Fu.val at HFN
        simp only [World.size_alloc] at HFN
        go_wp2_with fail
        refine HFN.out.mono ?_
        rintro e w2 ⟨rfl, a', bs', v', cs', k1, k2, k3, k4⟩
        obtain ⟨va, vc, rfl⟩ := own_form k1.2.2.2.1
        clear HFN
        have HKEEP : Hid (∀ g, g < wr.heap.size → w2.heap[g]? = wr.heap[g]?) := fun g hg => (k3.2.2.2.2 g (by rw [World.size_alloc, World.size_alloc]; omega) (by simp only [List.mem_singleton]; omega)).trans (((Lib.alloc_old _ _ g (by rw [World.size_alloc]; omega)).trans (Lib.alloc_old _ _ g hg)))
        have HF2 : Hid (Fr [fm, cb] W5 w2) := HX.out.2.1.trans ⟨k3.1, k3.2.1, k3.2.2.1, by have h := k3.size; rw [World.size_alloc, World.size_alloc] at h; omega, fun g hg _ => HKEEP.out g hg⟩
        have HK1 := Hid.mk' k1
        have HK2 := Hid.mk' k2
        have HK4 : Hid (∀ g ∈ ob (.slice va cs'.length vc), wr.heap.size ≤ g) := fun g hg => by have h := k4 g hg; omega
        have t2 := k1.cellM
        have t3 := k1.cellV
        have hs2 : wr.heap.size + 1 + 1 ≤ w2.heap.size := by have := k3.size; simpa using this
        have f0 : w2.cell? ⟨wr.heap.size, 0, none⟩ = some (.string f.name) := by
          rw [k3.cell (by rw [World.size_alloc, World.size_alloc]; omega) (by simp only [List.mem_singleton]; omega), World.cell?_alloc_past _ _ _ (by simp), World.cell?_alloc_at _ _ _ _ rfl]; rfl
        clear k1 k2 k3 k4
        cases er : (R.e != 0)
        · have er' : R.e = 0 := by simpa using er
          have HV : Hid (lkZ p.funcs (p.funcs.drop (j + 1)) (j + 1) = res) := by show _ = _; rw [← HX.out.1, HD.out, if_neg (by simpa using er')]
          have HC2 := Hid.mk' (HK2.out er')
          clear er'
          obtain ⟨w3, hput, ht3, ho3⟩ := HK1.out.2.2.1.put f.name (by have := HY.out.1; unfold maxLen; omega) j ⟨by omega, by omega⟩ (by have := ftK_length p.funcs j; omega)
          have hbf : wr.heap.size + 1 ≠ fm := by have h := HK1.out.2.2.2.2.1; simp only [List.nodup_cons, List.mem_cons, not_or] at h; exact h.1.1
          have t3' : w3.cell? ⟨wr.heap.size + 1, 3, none⟩ = some (.slice va cs'.length vc) := (ho3.cell (by omega) hbf).trans t3
          have HR3 : Hid (RowsAt (w.heap.size + 1 + 1) w3 fm cb p.funcs j vs) := HX.out.2.2.2.on HN.out.1 (fun g hg hne => (ho3.2.2.2.2 g (by omega) hne).trans (HKEEP.out g hg))
          have u0 := HR3.out.cell HNIL.out
          have u1 := HR3.out.frozen j
          have HO3 := Hid.mk' ho3
          have HT3 := Hid.mk' ht3
          clear ho3 ht3
          go_wp2_with fail
          go_roundw
          case rel =>
            have hv : fm ∉ ob (.slice va cs'.length vc) := fun hg => HK1.out.2.2.2.2.2.1 fm hg (by simp)
            have hcb : cb ∉ ob (.slice va cs'.length vc) := fun hg => by have h1 := HK4.out cb hg; have h2 := HX.out.2.2.2.lt; omega
            have how := HK1.out.2.2.2.1
            rw [HC2.out] at how
            have how3 := own_keep how (fun g hg => HO3.out.2.2.2.2 g (own_lt how g hg).2 (fun e => hv (by rw [HC2.out, ← e]; exact hg)))
            rw [← HC2.out] at how3
            refine ⟨j + 1, vs.set j (.slice va cs'.length vc), by omega, by go_num, HV.out, ?_, ?_, HPUT.out _ _ HR3.out (by rw [← HC2.out]; exact own_base how3 (fun g hg => Nat.le_trans HSW.out (HK4.out g hg))) hv hcb⟩
            · exact (HF2.out.trans ((Fr.of_only HO3.out).mono (by simp))).set (by simp) _ _
            · rw [HFT.out]
              exact HT3.out.only ((OnlyB.refl cb w3).set _ _) (fun e => HN.out.1 e.symm)
          case measure => simp [intOf]; omega
        · have er' : R.e ≠ 0 := by simpa using er
          have HG : Hid (res = (R.e, (j : Int), R.m)) := by show _ = _; rw [← HX.out.1, HD.out, if_pos er']
          obtain ⟨hb7, r0, r1, r2, q0, q1, q2⟩ := HRES.out _ HF2.out
          have r0' : w2.drew.cell? _ = _ := r0
          have r1' : w2.drew.cell? _ = _ := r1
          have r2' : w2.drew.cell? _ = _ := r2
          have q0' : w2.drew.frozen? _ = _ := q0
          have q1' : w2.drew.frozen? _ = _ := q1
          have q2' : w2.drew.frozen? _ = _ := q2
          have t2' : w2.drew.cell? _ = _ := t2
          have HB7 := Hid.mk' hb7
          clear t3 f0 hb7
          go_upto_region 12 with fail
          go_region
          go_wp2_with fail
          refine bodyPost_ret (v := .tuple #[.slice none 0 0, fltV R.e j R.m]) (by simp [results, Tryz.results11, go_sem, r0, r1, r2]) rfl (HK.out _ _ ⟨Below.drew (below_set3 HB7.out (by omega) _ _ _), ?_, ?_⟩)
          · intro _; rw [HG.out]
          · intro h; rw [HG.out] at h; exact absurd h er'
      · have hli : ¬ (j : Int) < (p.funcs.length : Int) := by omega
        have hjn : j = p.funcs.length := by omega
        have HG : Hid (res = (0, 0, 0)) := by show _ = _; rw [← HX.out.1, List.drop_eq_nil_of_le (by omega), lkZ]
        have HROW : Hid (RowsAt (w.heap.size + 1 + 1) wr fm cb p.funcs p.funcs.length vs) := by have h := HX.out.2.2.2; rw [hjn] at h; exact h
        obtain ⟨hb7, r0, r1, r2, q0, q1, q2⟩ := HRES.out _ HX.out.2.1
        have HB7 := Hid.mk' hb7
        have HX2 := Hid.mk' HX.out.2.1
        clear hb7 HX hjn
        go_wp2_with fail
        refine bodyPost_ret (v := .tuple #[.slice (some ⟨cb, 0, none⟩) p.funcs.length p.funcs.length, fltV 0 0 0]) (by simp [results, Tryz.results11, go_sem, r0, r1, r2]) rfl (HK.out _ _ ⟨below_set3 HB7.out (by omega) _ _ _, ?_, ?_⟩)
        · intro h; rw [HG.out] at h; exact absurd rfl h
        · intro _
          have hc := HN.out.2.2.2.2
          exact ⟨HG.out, fm, cb, vs, rfl, HN.out.2.2.1, HN.out.1, (((HROW.out.set (by omega) hc _ _).set (by omega) hc _ _).set (by omega) hc _ _).lower (by omega)⟩
  · have e1' : c1 ≠ 0 := by simpa using e1
    have HG : Hid (res = (c1, c2, c3)) := (by rw [HE.out, if_pos e1'] : res = _)
    clear HE HZ e1'
    have R : ∀ o, (w1.alloc o).drew.cell? ⟨w.heap.size + 1, 0, none⟩ = some (.int .i64 0) ∧ (w1.alloc o).drew.cell? ⟨w.heap.size + 1, 1, none⟩ = some (.int .i64 0) ∧ (w1.alloc o).drew.cell? ⟨w.heap.size + 1, 2, none⟩ = some (.int .i64 0) ∧ ∀ j, (w1.alloc o).drew.frozen? ⟨w.heap.size + 1, j, none⟩ = w1.frozen? ⟨w.heap.size + 1, j, none⟩ := fun o => by
      have hlt1 : w.heap.size + 1 < w1.heap.size := by omega
      refine ⟨?_, ?_, ?_, fun j => ?_⟩
      · show (w1.alloc o).cell? _ = _
        rw [World.cell?_alloc_past _ _ _ hlt1]; exact r0
      · show (w1.alloc o).cell? _ = _
        rw [World.cell?_alloc_past _ _ _ hlt1]; exact r1
      · show (w1.alloc o).cell? _ = _
        rw [World.cell?_alloc_past _ _ _ hlt1]; exact r2
      · exact ((Below.refl w1.heap.size w1).alloc (Nat.le_refl _) o).frozen hlt1
    obtain ⟨r0', r1', r2', hfz⟩ := R (.cells #[.int .i64 c1, .int .i64 c2, .int .i64 c3] 29)
    have q0' := (hfz 0).trans q0
    have q1' := (hfz 1).trans q1
    have q2' := (hfz 2).trans q2
    have n0 : (w1.alloc (.cells #[.int .i64 c1, .int .i64 c2, .int .i64 c3] 29)).drew.cell? ⟨w1.heap.size, 0, none⟩ = some (.int .i64 c1) := by
      show (w1.alloc _).cell? _ = _
      rw [World.cell?_alloc_at _ _ _ _ rfl]; rfl
    have n1 : (w1.alloc (.cells #[.int .i64 c1, .int .i64 c2, .int .i64 c3] 29)).drew.cell? ⟨w1.heap.size, 1, none⟩ = some (.int .i64 c2) := by
      show (w1.alloc _).cell? _ = _
      rw [World.cell?_alloc_at _ _ _ _ rfl]; rfl
    have n2 : (w1.alloc (.cells #[.int .i64 c1, .int .i64 c2, .int .i64 c3] 29)).drew.cell? ⟨w1.heap.size, 2, none⟩ = some (.int .i64 c3) := by
      show (w1.alloc _).cell? _ = _
      rw [World.cell?_alloc_at _ _ _ _ rfl]; rfl
    have hb7 : Below w.heap.size w (w1.alloc (.cells #[.int .i64 c1, .int .i64 c2, .int .i64 c3] 29)) := hb2.alloc hb2.size _
    clear R hfz c1'
    go_upto_region 3 with fail
    clear r0 r1 r2 q0 q1 q2
    generalize w1.alloc (.cells #[.int .i64 c1, .int .i64 c2, .int .i64 c3] 29) = W6 at *
    have r0 : W6.cell? _ = _ := r0'
    have r1 : W6.cell? _ = _ := r1'
    have r2 : W6.cell? _ = _ := r2'
    have q0 : W6.frozen? _ = _ := q0'
    have q1 : W6.frozen? _ = _ := q1'
    have q2 : W6.frozen? _ = _ := q2'
    have n0' : W6.cell? _ = _ := n0
    have n1' : W6.cell? _ = _ := n1
    have n2' : W6.cell? _ = _ := n2
    have hne : w.heap.size + 1 ≠ w1.heap.size := by omega
    go_region
    go_wp2_with fail
    refine bodyPost_ret (v := .tuple #[.slice none 0 0, fltV c1 c2 c3]) (by simp [results, Tryz.results11, go_sem, r0, r1, r2]) rfl (HK.out _ _ ⟨Below.drew (below_set3 hb7 (by omega) _ _ _), ?_, ?_⟩)
    · intro _; rw [HG.out]
    · intro h; rw [HG.out] at h; exact absurd (show c1 = 0 from h) (by simpa using e1)
end Go.Proofs.YtkkcgkpbbngloaaGreatDoor

/- slices.Sort and slices.Compact at lists of int, laid at this program: each one application of what is proved once over any program. -/
namespace Go.Proofs
open Go.Shelf
def Tryz.lays189_ren : Go.Shelf.Ren := ⟨fun | 189 => 14 | 125 => 24 | 257 => 23 | 128 => 44 | 129 => 45 | 294 => 35 | 295 => 36 | 296 => 37 | 297 => 38 | 298 => 39 | 299 => 40 | 216 => 41 | 300 => 42 | 301 => 43 | 328 => 61 | 329 => 62 | 330 => 63 | 331 => 64 | 332 => 65 | 215 => 66 | 343 => 89 | n => n, fun | 28 => 32 | 3 => 3 | 46 => 74 | 0 => 0 | 51 => 100 | 53 => 102 | 4 => 4 | 183 => 93 | 182 => 92 | 131 => 78 | 5 => 5 | 9 => 9 | 218 => 116 | 222 => 120 | 228 => 140 | 229 => 141 | n => n, fun | n => n⟩
theorem Tryz.lays189 : Go.Proofs.Lays.n189 Tryz.prog Tryz.lays189_ren := {
  mixed := by kernel_rfl
  f125 := Tryz.func24.trans (congrArg some (by kernel_rfl))
  f128 := Tryz.func44.trans (congrArg some (by kernel_rfl))
  f129 := Tryz.func45.trans (congrArg some (by kernel_rfl))
  f189 := Tryz.func14.trans (congrArg some (by kernel_rfl))
  f215 := Tryz.func66.trans (congrArg some (by kernel_rfl))
  f216 := Tryz.func41.trans (congrArg some (by kernel_rfl))
  f257 := Tryz.func23.trans (congrArg some (by kernel_rfl))
  f294 := Tryz.func35.trans (congrArg some (by kernel_rfl))
  f295 := Tryz.func36.trans (congrArg some (by kernel_rfl))
  f296 := Tryz.func37.trans (congrArg some (by kernel_rfl))
  f297 := Tryz.func38.trans (congrArg some (by kernel_rfl))
  f298 := Tryz.func39.trans (congrArg some (by kernel_rfl))
  f299 := Tryz.func40.trans (congrArg some (by kernel_rfl))
  f300 := Tryz.func42.trans (congrArg some (by kernel_rfl))
  f301 := Tryz.func43.trans (congrArg some (by kernel_rfl))
  f328 := Tryz.func61.trans (congrArg some (by kernel_rfl))
  f329 := Tryz.func62.trans (congrArg some (by kernel_rfl))
  f330 := Tryz.func63.trans (congrArg some (by kernel_rfl))
  f331 := Tryz.func64.trans (congrArg some (by kernel_rfl))
  f332 := Tryz.func65.trans (congrArg some (by kernel_rfl))
  f343 := Tryz.func89.trans (congrArg some (by kernel_rfl))
  t0 := Tryz.underlying0
  a0 := Tryz.isAgg0
  z0 := Tryz.sizeOf0
  v0 := Tryz.zeroValue0
  t3 := Tryz.underlying3
  a3 := Tryz.isAgg3
  z3 := Tryz.sizeOf3
  v3 := Tryz.zeroValue3
  t4 := Tryz.underlying4
  a4 := Tryz.isAgg4
  z4 := Tryz.sizeOf4
  v4 := Tryz.zeroValue4
  t5 := Tryz.underlying5
  a5 := Tryz.isAgg5
  z5 := Tryz.sizeOf5
  v5 := Tryz.zeroValue5
  t9 := Tryz.underlying9
  a9 := Tryz.isAgg9
  z9 := Tryz.sizeOf9
  v9 := Tryz.zeroValue9
  t28 := Tryz.underlying32
  a28 := Tryz.isAgg32
  z28 := Tryz.sizeOf32
  v28 := Tryz.zeroValue32
  t46 := Tryz.underlying74
  a46 := Tryz.isAgg74
  z46 := Tryz.sizeOf74
  v46 := Tryz.zeroValue74
  t51 := Tryz.underlying100
  a51 := Tryz.isAgg100
  z51 := Tryz.sizeOf100
  v51 := Tryz.zeroValue100
  t53 := Tryz.underlying102
  a53 := Tryz.isAgg102
  z53 := Tryz.sizeOf102
  v53 := Tryz.zeroValue102
  t131 := Tryz.underlying78
  a131 := Tryz.isAgg78
  z131 := Tryz.sizeOf78
  v131 := Tryz.zeroValue78
  t182 := Tryz.underlying92
  a182 := Tryz.isAgg92
  z182 := Tryz.sizeOf92
  v182 := Tryz.zeroValue92
  t183 := Tryz.underlying93
  a183 := Tryz.isAgg93
  z183 := Tryz.sizeOf93
  v183 := Tryz.zeroValue93
  t218 := Tryz.underlying116
  a218 := Tryz.isAgg116
  z218 := Tryz.sizeOf116
  v218 := Tryz.zeroValue116
  t222 := Tryz.underlying120
  a222 := Tryz.isAgg120
  z222 := Tryz.sizeOf120
  v222 := Tryz.zeroValue120
  t228 := Tryz.underlying140
  a228 := Tryz.isAgg140
  z228 := Tryz.sizeOf140
  v228 := Tryz.zeroValue140
  t229 := Tryz.underlying141
  a229 := Tryz.isAgg141
  z229 := Tryz.sizeOf141
  v229 := Tryz.zeroValue141 }
def Tryz.laysNm220_ren : Go.Shelf.Ren := ⟨fun | 20 => 15 | n => n, fun | 22 => 32 | 3 => 3 | 4 => 4 | 0 => 0 | n => n, fun | n => n⟩
theorem Tryz.laysNm220 : Go.Proofs.Lays2.n20 Tryz.prog Tryz.laysNm220_ren := {
  mixed := by kernel_rfl
  f20 := Tryz.func15.trans (congrArg some (by kernel_rfl))
  t0 := Tryz.underlying0
  a0 := Tryz.isAgg0
  z0 := Tryz.sizeOf0
  v0 := Tryz.zeroValue0
  t3 := Tryz.underlying3
  a3 := Tryz.isAgg3
  z3 := Tryz.sizeOf3
  v3 := Tryz.zeroValue3
  t4 := Tryz.underlying4
  a4 := Tryz.isAgg4
  z4 := Tryz.sizeOf4
  v4 := Tryz.zeroValue4
  t22 := Tryz.underlying32
  a22 := Tryz.isAgg32
  z22 := Tryz.sizeOf32
  v22 := Tryz.zeroValue32
  i3 := by kernel_rfl }
end Go.Proofs

/- slices.Sort and slices.Compact, at a row of numbers that the call owns. -/
namespace Go.Proofs.YtkkcgkpbbngloaaGreatDoor
open Go.RowKit Go.Sort

/-- The numbers, rising. -/
def sortI (l : List Int) : List Int := l.mergeSort fun x y => decide (x ≤ y)
theorem sortI_length (l : List Int) : (sortI l).length = l.length := List.length_mergeSort l
theorem sort_row {N : Nat} {v : Value} {c : List Int} (W : World) (h : W.ownsRow N 3 1 v c.length (c.map (Value.int .i64))) (hl : c.length ≤ 1000000) :
    Calls Tryz.prog 14 #[v] W fun e W' => e = .returned (.tuple #[]) ∧ W'.ownsRow N 3 1 v c.length ((sortI c).map (Value.int .i64)) ∧ Fr (ob v) W W' := by
  rcases h.2 with ⟨rfl, h0⟩ | ⟨g, cap, cur, rfl, hg, hb, hn, hm, hs, ht⟩
  · have hc : c = [] := List.length_eq_zero_iff.1 h0
    subst hc
    refine (Any.slices_Sort_int_none Tryz.lays189 none 0 W).mono ?_
    rintro e W' ⟨rfl, rfl⟩
    exact ⟨rfl, by simpa [sortI] using h, Fr.refl _ _⟩
  · have hH : Holds (Value.int .i64) W g 0 c.toArray := holds_of_blockI hb (by simpa using ht)
    refine (Any.slices_Sort_int Tryz.lays189 g 0 cap c W hH (Array.getElem?_eq_some_iff.1 hb).1 (by omega)).mono ?_
    rintro e W' ⟨rfl, n, os, rfl⟩
    exact ⟨rfl, ownsRow_sortedI (sortI_length c) hg hb hn hm hs, Fr.of_grown (grownBy_sortedI _)⟩
theorem compact_row {N : Nat} {v : Value} {c : List Int} (W : World) (h : W.ownsRow N 3 1 v c.length (c.map (Value.int .i64))) :
    Calls Tryz.prog 15 #[v] W fun e W' => ∃ v', e = .returned v' ∧ W'.ownsRow N 3 1 v' (Lib.compact c).length ((Lib.compact c).map (Value.int .i64)) ∧ ob v' = ob v ∧ Fr (ob v) W W' := by
  rcases h.2 with ⟨rfl, h0⟩ | ⟨g, cap, cur, rfl, hg, hb, hn, hm, hs, ht⟩
  · have hc : c = [] := List.length_eq_zero_iff.1 h0
    subst hc
    refine (Any.slices_Compact_int_empty Tryz.laysNm220 none 0 W).mono ?_
    rintro e W' ⟨rfl, rfl⟩
    exact ⟨_, rfl, by rw [show Lib.compact ([] : List Int) = [] from rfl]; exact h, rfl, Fr.refl _ _⟩
  · have hH : Holds (Value.int .i64) W g 0 c.toArray := holds_of_blockI hb (by simpa using ht)
    refine (Any.slices_Compact_int Tryz.laysNm220 g 0 cap c W hH (by unfold maxLen at hm; omega) hn).mono ?_
    rintro e W' ⟨rfl, q, rfl⟩
    have hle := Lib.compact_length_le c
    have hc := Lib.ownsRow_putRow (q := q) (k := (Lib.compact c).length) (ys := Lib.compact c ++ List.replicate (c.length - (Lib.compact c).length) 0) h (by simp; omega) hle
    rw [List.take_left] at hc
    refine ⟨_, rfl, hc, rfl, ?_⟩
    refine ⟨rfl, rfl, rfl, by simp [putRow, mapBlock, Sort.ahead], fun k hk hne => ?_⟩
    have hne' : g ≠ k := fun e => hne (by rw [← e]; simp [ob, Value.ownBlock])
    simp [putRow, mapBlock, Sort.ahead, Array.getElem?_modify, hne']
end Go.Proofs.YtkkcgkpbbngloaaGreatDoor
