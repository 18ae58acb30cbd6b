/- The document's own count of statements: what it answers. -/
import Derived.Test.YtkkcgkpbbngloaaDoorPart2
import Derived.Deep.DeepAppendRoom
import Derived.Deep.AppendLies
import Derived.Lib.QuietBelow
import Derived.Deep.RegionHeld3
import Derived.Deep.DrawnRows
import Derived.Deep.CutRange
namespace Go.Proofs.YtkkcgkpbbngloaaDoor
open Go.RowKit

set_option maxRecDepth 100000 in
set_option maxHeartbeats 16000000 in
theorem rstmts_k (k : Nat) : ∀ (l : List St) (a : Option Addr) (c : Nat) (left : Int) (w : World), ssz l ≤ k → Have w a c l → -8 ≤ left → left ≤ 4611686018427387904 →
    Calls Tryd.prog 25 #[.slice a l.length c, .int .i64 left] w fun e w' => e = .returned (.int .i64 (rSs l left 0)) ∧ Below w.heap.size w w' := by
  induction k with
  | zero =>
    intro l a c left w hk hin h0 h1
    obtain rfl : l = [] := by
      cases l with
      | nil => rfl
      | cons x r => rw [ssz] at hk; have := x.sz_eq; omega
    rw [rSs]
    show Calls Tryd.prog 25 #[.slice a 0 c, .int .i64 left] w _
    go_enter Tryd.func25, Tryd.ntmps25
    go_wp2_with fail
    go_loopw [5, 6] (fun t5 t6 wr => t5 = .int .i64 0 ∧ t6 = .int .i64 0 ∧ wr = w) (fun _ _ _ => 0)
    case atStart => exact ⟨rfl, rfl, rfl⟩
    case round =>
      obtain ⟨rfl, rfl, rfl⟩ := hrel
      go_wp2_with fail
      go_ret
      exact ⟨rfl, Below.refl _ _⟩
  | succ k ih =>
    intro l a c left w hk hin h0 h1
    obtain ⟨⟨hl, hc, _, hrow⟩, hsub⟩ := hin
    have IH : Hid (∀ (l : List St) (a : Option Addr) (c : Nat) (left : Int) (w : World), ssz l ≤ k → Have w a c l → -8 ≤ left → left ≤ 4611686018427387904 → Calls Tryd.prog 25 #[.slice a l.length c, .int .i64 left] w fun e w' => e = .returned (.int .i64 (rSs l left 0)) ∧ Below w.heap.size w w') := ih
    have HS : Hid (∀ x ∈ l, x.In w) := hsub
    have HR : Hid (RowIn w a 14 (List.map St.cells l)) := hrow
    have HK : Hid (ssz l ≤ k + 1) := hk
    clear ih hsub hrow hk
    go_enter Tryd.func25, Tryd.ntmps25
    go_wp2_with fail
    go_loopw [5, 6] (fun t5 t6 wr => ∃ (j : Nat) (m : Int), j ≤ l.length ∧ t5 = .int .i64 m ∧ t6 = .int .i64 j ∧ 0 ≤ m ∧ m ≤ max 0 (left + 3) ∧ rSs (l.drop j) left m = rSs l left 0 ∧ Below w.heap.size w wr) (fun _ t6 _ => l.length - (intOf t6).toNat)
    case atStart => exact ⟨0, 0, Nat.zero_le _, rfl, rfl, by omega, by omega, by simp, Below.refl _ w⟩
    case round =>
      obtain ⟨j, m, hj, rfl, rfl, hm0, hm1, hcnt, hb⟩ := hrel
      have HC : Hid (rSs (l.drop j) left m = rSs l left 0) := hcnt
      clear hcnt
      have hws := hb.size
      by_cases hlt : j < l.length
      · have hli : (j : Int) < (l.length : Int) := by omega
        have HD : Hid (rSs (l.drop j) left m = if m ≤ left then rSs (l.drop (j + 1)) left (rS l[j] left m) else m) := rSs_drop hlt
        by_cases hm : m ≤ left
        · obtain ⟨b, o, rfl, hcell⟩ := rowS_at (HR.out.below hb) hlt
          have c0 := hcell 0 _ rfl
          have c1 := hcell 1 _ rfl
          have c2 := hcell 2 _ rfl
          have c3 := hcell 3 _ rfl
          have c4 := hcell 4 _ rfl
          have c5 := hcell 5 _ rfl
          have c6 := hcell 6 _ rfl
          have c7 := hcell 7 _ rfl
          have c8 := hcell 8 _ rfl
          have c9 := hcell 9 _ rfl
          have c10 := hcell 10 _ rfl
          have c11 := hcell 11 _ rfl
          have c12 := hcell 12 _ rfl
          have c13 := hcell 13 _ rfl
          simp only [← Nat.add_assoc, Nat.add_zero] at c0 c1 c2 c3 c4 c5 c6 c7 c8 c9 c10 c11 c12 c13
          clear hcell
          have HI : Hid (l[j].In wr) := (HS.out _ (List.getElem_mem hlt)).stay hb
          have HZ : Hid (l[j].sz ≤ k + 1) := by
            have h1 := ssz_mem (List.getElem_mem hlt)
            have h3 := HK.out
            show l[j].sz ≤ k + 1
            omega
          rw [if_pos hm] at HD
          generalize l[j] = s at *
          have HZA : Hid (∀ w, Calls Tryd.prog 38 #[s.a.val] w fun e w' => e = .returned (.bool (zeroE s.a)) ∧ Below w.heap.size w w') := fun w => rzero_any s.a w
          have HZB : Hid (∀ w, Calls Tryd.prog 38 #[s.b.val] w fun e w' => e = .returned (.bool (zeroE s.b)) ∧ Below w.heap.size w w') := fun w => rzero_any s.b w
          unfold Ex.val at HZA HZB
          cases hza : zeroE s.a
          · cases hzb : zeroE s.b
            · have EQ : Hid (rS s left m = rB s.els left (rCs s.cases left (((m + 1) + (1 + rL s.a.args (left - (m + 1) - 1) 0)) + (1 + rL s.b.args (left - ((m + 1) + (1 + rL s.a.args (left - (m + 1) - 1) 0)) - 1) 0) + rSs s.body (left - (((m + 1) + (1 + rL s.a.args (left - (m + 1) - 1) 0)) + (1 + rL s.b.args (left - ((m + 1) + (1 + rL s.a.args (left - (m + 1) - 1) 0)) - 1) 0))) 0))) := by
                show _ = _; rw [rS_eq, rZ_f hza, rZ_f hzb]; rfl
              rw [hza] at HZA
              rw [hzb] at HZB
              go_wp2_with fail
              obtain ⟨W1, hW1⟩ : ∃ W1, wr.alloc (.cells #[.int .i64 s.kind, .string s.name, .int .i64 s.n, .int .i64 s.a.kind, .int .i64 s.a.n, .string s.a.name, .slice s.a.a s.a.args.length s.a.cap, .int .i64 s.b.kind, .int .i64 s.b.n, .string s.b.name, .slice s.b.a s.b.args.length s.b.cap, .slice s.ba s.body.length s.bc, .slice s.ea s.els.length s.ec, .slice s.ca s.cases.length s.cc] 44) = W1 := ⟨_, rfl⟩
              have BX : Hid (∀ (j : Nat) v, s.cells[j]? = some v → W1.cell? ⟨wr.heap.size, j, none⟩ = some v) := by
                show ∀ (j : Nat) v, _; intro j v h
                rw [← hW1, World.cell?_alloc_at _ _ _ _ rfl]; simpa [St.cells] using h
              have hb1 : Below w.heap.size w W1 := by rw [← hW1]; exact hb.alloc hws _
              have hbr : Below wr.heap.size wr W1 := by rw [← hW1]; exact (Below.refl _ wr).alloc (Nat.le_refl _) _
              have hs1 : wr.heap.size < W1.heap.size := by rw [← hW1]; simp
              rw [hW1]
              clear hW1 c0 c1 c2 c3 c4 c5 c6 c7 c8 c9 c10 c11 c12 c13
              have HI1 : Hid (s.In W1) := HI.out.stay hbr
              obtain ⟨Z, hZ⟩ : ∃ Z, wr.heap.size = Z := ⟨_, rfl⟩
              rw [hZ] at BX hs1 ⊢
              have CX : Hid (∀ w', Below W1.heap.size W1 w' → ∀ (j : Nat) v, s.cells[j]? = some v → w'.cell? ⟨Z, j, none⟩ = some v) := fun w' h j v e => (h.cell (p := ⟨Z, j, none⟩) hs1).trans (BX.out j v e)
              clear hbr hZ hb hws
              refine (HZA.out W1).mono ?_
              rintro e w2 ⟨rfl, hb2⟩
              have c6 := CX.out _ hb2 6 _ rfl
              go_wp2_with fail
              refine (rexprs_any s.a.args s.a.a s.a.cap (left - (m + 1) - 1) _ ((St.in_iff.1 (HI1.out.stay hb2)).2.2.2.1.have) (by omega) (by omega)).mono ?_
              have b1 := rL_bd s.a.args (left - (m + 1) - 1) 0
              generalize rL s.a.args (left - (m + 1) - 1) 0 = q1 at b1 EQ ⊢
              rintro e w3 ⟨rfl, hb3⟩
              have hb3' := hb2.trans (hb3.mono hb2.size)
              clear hb2 hb3 c6
              have c7 := CX.out _ hb3' 7 _ rfl
              have c8 := CX.out _ hb3' 8 _ rfl
              have c9 := CX.out _ hb3' 9 _ rfl
              have c10 := CX.out _ hb3' 10 _ rfl
              go_wp2_with fail
              refine (HZB.out _).mono ?_
              rintro e w4 ⟨rfl, hb4⟩
              have hb4' := hb3'.trans (hb4.mono hb3'.size)
              clear hb3' hb4 c7 c8 c9 c10
              have c10 := CX.out _ hb4' 10 _ rfl
              go_wp2_with fail
              refine (rexprs_any s.b.args s.b.a s.b.cap (left - ((m + 1) + (1 + q1)) - 1) _ ((St.in_iff.1 (HI1.out.stay hb4')).2.2.2.2.1.have) (by omega) (by omega)).mono ?_
              have b2 := rL_bd s.b.args (left - ((m + 1) + (1 + q1)) - 1) 0
              generalize rL s.b.args (left - ((m + 1) + (1 + q1)) - 1) 0 = q2 at b2 EQ ⊢
              rintro e w5 ⟨rfl, hb5⟩
              have hb5' := hb4'.trans (hb5.mono hb4'.size)
              clear hb4' hb5 c10
              have c11 := CX.out _ hb5' 11 _ rfl
              go_wp2_with fail
              refine (IH.out s.body s.ba s.bc (left - (((m + 1) + (1 + q1)) + (1 + q2))) _ (by have := s.sz_eq; have := HZ.out; omega) (St.in_iff.1 (HI1.out.stay hb5')).2.2.2.2.2.1 (by omega) (by omega)).mono ?_
              have b3 := rSs_bd s.body (left - (((m + 1) + (1 + q1)) + (1 + q2))) 0
              generalize rSs s.body (left - (((m + 1) + (1 + q1)) + (1 + q2))) 0 = q3 at b3 EQ ⊢
              rintro e w6 ⟨rfl, hb6⟩
              have hb6' := hb5'.trans (hb6.mono hb5'.size)
              clear hb5' hb6 c11
              obtain ⟨n4, hn4⟩ : ∃ n4, ((m + 1) + (1 + q1)) + (1 + q2) + q3 = n4 := ⟨_, rfl⟩
              have hn4b : 0 ≤ n4 ∧ n4 ≤ left + 3 := by omega
              rw [hn4] at EQ
              have HN4 := show Hid _ from hn4
              clear hn4
              go_wp2_with fail
              go_loopw [5, 8] (fun t5 t8 wq => ∃ (i : Nat) (p : Int), i ≤ s.cases.length ∧ t5 = .int .i64 p ∧ t8 = .int .i64 i ∧ 0 ≤ p ∧ p ≤ left + 3 ∧ rCs (s.cases.drop i) left p = rCs s.cases left n4 ∧ Below W1.heap.size W1 wq) (fun _ t8 _ => s.cases.length - (intOf t8).toNat)
              case atStart => exact ⟨0, n4, Nat.zero_le _, by have := HN4.out; go_num, rfl, hn4b.1, hn4b.2, by simp, hb6'⟩
              case round =>
                obtain ⟨i, p, hi, rfl, rfl, hp0, hp1, hpc, hbq⟩ := hrel
                have HPC : Hid (rCs (s.cases.drop i) left p = rCs s.cases left n4) := hpc
                clear hpc
                obtain ⟨hcl, hcc, _, hcr⟩ := (St.in_iff.1 (HI1.out.stay hbq)).2.2.2.2.2.2.2.1
                have HCR : Hid (RowIn wr s.ca 2 (s.cases.map Ca.cells)) := hcr
                clear hcr
                have c13 := CX.out _ hbq 13 _ rfl
                by_cases hilt : i < s.cases.length
                · have hili : (i : Int) < (s.cases.length : Int) := by omega
                  have HD2 : Hid (rCs (s.cases.drop i) left p = if p ≤ left then rCs (s.cases.drop (i + 1)) left (p + (1 + rC s.cases[i] (left - p - 1))) else p) := rCs_drop hilt
                  by_cases hpl : p ≤ left
                  · obtain ⟨b', o', hca, d0, d1⟩ := rowC_at HCR.out hilt
                    rw [hca] at c13
                    clear hca
                    rw [if_pos hpl, rC_eq] at HD2
                    have HIc : Hid (Have wr s.cases[i].ba s.cases[i].bc s.cases[i].body) := (Ca.in_iff.1 ((St.in_iff.1 (HI1.out.stay hbq)).2.2.2.2.2.2.2.2 _ (List.getElem_mem hilt))).2
                    have HZc : Hid (ssz s.cases[i].body ≤ k) := by
                      have h1 := csz_mem (List.getElem_mem hilt)
                      have h2 := (s.cases[i]).sz_eq
                      have h3 := s.sz_eq
                      have h4 := HZ.out
                      show ssz s.cases[i].body ≤ k
                      omega
                    generalize s.cases[i] = y at *
                    go_wp2_with fail
                    refine (IH.out y.body y.ba y.bc (left - p - 1) _ HZc.out HIc.out (by omega) (by omega)).mono ?_
                    have b4 := rSs_bd y.body (left - p - 1) 0
                    generalize rSs y.body (left - p - 1) 0 = q4 at b4 HD2 ⊢
                    rintro e w7 ⟨rfl, hb7⟩
                    have hb7' := hbq.trans (hb7.mono hbq.size)
                    clear hb7 c13 d0 d1
                    go_wp2_with fail
                    go_roundw
                    case rel =>
                      refine ⟨i + 1, p + (1 + q4), by omega, by go_num, by go_num, by omega, by omega, ?_, hb7'⟩
                      rw [← HPC.out, HD2.out]
                    case measure => simp [intOf]; omega
                  · rw [if_neg hpl] at HD2
                    have hpe : rCs s.cases left n4 = p := by rw [← HPC.out, HD2.out]
                    have c12 := CX.out _ hbq 12 _ rfl
                    go_wp2_with fail
                    refine (IH.out s.els s.ea s.ec (left - p) _ (by have := s.sz_eq; have := HZ.out; omega) (St.in_iff.1 (HI1.out.stay hbq)).2.2.2.2.2.2.1 (by omega) (by omega)).mono ?_
                    have b5 := rSs_bd s.els (left - p) 0
                    have EQ2 : Hid (rS s left m = p + rSs s.els (left - p) 0) := by show _ = _; rw [EQ.out, hpe]; rfl
                    generalize rSs s.els (left - p) 0 = q5 at b5 EQ2 ⊢
                    rintro e w8 ⟨rfl, hb8⟩
                    have hb8' := hb1.trans ((hbq.trans (hb8.mono hbq.size)).mono hb1.size)
                    clear hb8 c12 c13 hpe
                    go_wp2_with fail
                    go_roundw
                    case rel =>
                      refine ⟨j + 1, p + q5, by omega, by go_num, by go_num, by omega, by omega, ?_, hb8'⟩
                      rw [← HC.out, HD.out, EQ2.out]
                    case measure => simp [intOf]; omega
                · obtain rfl : i = s.cases.length := by omega
                  have hpe : rCs s.cases left n4 = p := by rw [← HPC.out, List.drop_eq_nil_of_le (Nat.le_refl _), rCs]
                  have c12 := CX.out _ hbq 12 _ rfl
                  go_wp2_with fail
                  refine (IH.out s.els s.ea s.ec (left - p) _ (by have := s.sz_eq; have := HZ.out; omega) (St.in_iff.1 (HI1.out.stay hbq)).2.2.2.2.2.2.1 (by omega) (by omega)).mono ?_
                  have b5 := rSs_bd s.els (left - p) 0
                  have EQ2 : Hid (rS s left m = p + rSs s.els (left - p) 0) := by show _ = _; rw [EQ.out, hpe]; rfl
                  generalize rSs s.els (left - p) 0 = q5 at b5 EQ2 ⊢
                  rintro e w8 ⟨rfl, hb8⟩
                  have hb8' := hb1.trans ((hbq.trans (hb8.mono hbq.size)).mono hb1.size)
                  clear hb8 c12 c13 hpe
                  go_wp2_with fail
                  go_roundw
                  case rel =>
                    refine ⟨j + 1, p + q5, by omega, by go_num, by go_num, by omega, by omega, ?_, hb8'⟩
                    rw [← HC.out, HD.out, EQ2.out]
                  case measure => simp [intOf]; omega
            · have EQ : Hid (rS s left m = rB s.els left (rCs s.cases left ((m + 1) + (1 + rL s.a.args (left - (m + 1) - 1) 0) + rSs s.body (left - ((m + 1) + (1 + rL s.a.args (left - (m + 1) - 1) 0))) 0))) := by
                show _ = _; rw [rS_eq, rZ_f hza, rZ_t hzb]; rfl
              rw [hza] at HZA
              rw [hzb] at HZB
              go_wp2_with fail
              obtain ⟨W1, hW1⟩ : ∃ W1, wr.alloc (.cells #[.int .i64 s.kind, .string s.name, .int .i64 s.n, .int .i64 s.a.kind, .int .i64 s.a.n, .string s.a.name, .slice s.a.a s.a.args.length s.a.cap, .int .i64 s.b.kind, .int .i64 s.b.n, .string s.b.name, .slice s.b.a s.b.args.length s.b.cap, .slice s.ba s.body.length s.bc, .slice s.ea s.els.length s.ec, .slice s.ca s.cases.length s.cc] 44) = W1 := ⟨_, rfl⟩
              have BX : Hid (∀ (j : Nat) v, s.cells[j]? = some v → W1.cell? ⟨wr.heap.size, j, none⟩ = some v) := by
                show ∀ (j : Nat) v, _; intro j v h
                rw [← hW1, World.cell?_alloc_at _ _ _ _ rfl]; simpa [St.cells] using h
              have hb1 : Below w.heap.size w W1 := by rw [← hW1]; exact hb.alloc hws _
              have hbr : Below wr.heap.size wr W1 := by rw [← hW1]; exact (Below.refl _ wr).alloc (Nat.le_refl _) _
              have hs1 : wr.heap.size < W1.heap.size := by rw [← hW1]; simp
              rw [hW1]
              clear hW1 c0 c1 c2 c3 c4 c5 c6 c7 c8 c9 c10 c11 c12 c13
              have HI1 : Hid (s.In W1) := HI.out.stay hbr
              obtain ⟨Z, hZ⟩ : ∃ Z, wr.heap.size = Z := ⟨_, rfl⟩
              rw [hZ] at BX hs1 ⊢
              have CX : Hid (∀ w', Below W1.heap.size W1 w' → ∀ (j : Nat) v, s.cells[j]? = some v → w'.cell? ⟨Z, j, none⟩ = some v) := fun w' h j v e => (h.cell (p := ⟨Z, j, none⟩) hs1).trans (BX.out j v e)
              clear hbr hZ hb hws
              refine (HZA.out W1).mono ?_
              rintro e w2 ⟨rfl, hb2⟩
              have c6 := CX.out _ hb2 6 _ rfl
              go_wp2_with fail
              refine (rexprs_any s.a.args s.a.a s.a.cap (left - (m + 1) - 1) _ ((St.in_iff.1 (HI1.out.stay hb2)).2.2.2.1.have) (by omega) (by omega)).mono ?_
              have b1 := rL_bd s.a.args (left - (m + 1) - 1) 0
              generalize rL s.a.args (left - (m + 1) - 1) 0 = q1 at b1 EQ ⊢
              rintro e w3 ⟨rfl, hb3⟩
              have hb3' := hb2.trans (hb3.mono hb2.size)
              clear hb2 hb3 c6
              have c7 := CX.out _ hb3' 7 _ rfl
              have c8 := CX.out _ hb3' 8 _ rfl
              have c9 := CX.out _ hb3' 9 _ rfl
              have c10 := CX.out _ hb3' 10 _ rfl
              go_wp2_with fail
              refine (HZB.out _).mono ?_
              rintro e w4 ⟨rfl, hb4⟩
              have hb4' := hb3'.trans (hb4.mono hb3'.size)
              clear hb3' hb4 c7 c8 c9 c10
              have c11 := CX.out _ hb4' 11 _ rfl
              go_wp2_with fail
              refine (IH.out s.body s.ba s.bc (left - ((m + 1) + (1 + q1))) _ (by have := s.sz_eq; have := HZ.out; omega) (St.in_iff.1 (HI1.out.stay hb4')).2.2.2.2.2.1 (by omega) (by omega)).mono ?_
              have b3 := rSs_bd s.body (left - ((m + 1) + (1 + q1))) 0
              generalize rSs s.body (left - ((m + 1) + (1 + q1))) 0 = q3 at b3 EQ ⊢
              rintro e w6 ⟨rfl, hb6⟩
              have hb6' := hb4'.trans (hb6.mono hb4'.size)
              clear hb4' hb6 c11
              obtain ⟨n4, hn4⟩ : ∃ n4, (m + 1) + (1 + q1) + q3 = n4 := ⟨_, rfl⟩
              have hn4b : 0 ≤ n4 ∧ n4 ≤ left + 3 := by omega
              rw [hn4] at EQ
              have HN4 := show Hid _ from hn4
              clear hn4
              go_wp2_with fail
              go_loopw [5, 8] (fun t5 t8 wq => ∃ (i : Nat) (p : Int), i ≤ s.cases.length ∧ t5 = .int .i64 p ∧ t8 = .int .i64 i ∧ 0 ≤ p ∧ p ≤ left + 3 ∧ rCs (s.cases.drop i) left p = rCs s.cases left n4 ∧ Below W1.heap.size W1 wq) (fun _ t8 _ => s.cases.length - (intOf t8).toNat)
              case atStart => exact ⟨0, n4, Nat.zero_le _, by have := HN4.out; go_num, rfl, hn4b.1, hn4b.2, by simp, hb6'⟩
              case round =>
                obtain ⟨i, p, hi, rfl, rfl, hp0, hp1, hpc, hbq⟩ := hrel
                have HPC : Hid (rCs (s.cases.drop i) left p = rCs s.cases left n4) := hpc
                clear hpc
                obtain ⟨hcl, hcc, _, hcr⟩ := (St.in_iff.1 (HI1.out.stay hbq)).2.2.2.2.2.2.2.1
                have HCR : Hid (RowIn wr s.ca 2 (s.cases.map Ca.cells)) := hcr
                clear hcr
                have c13 := CX.out _ hbq 13 _ rfl
                by_cases hilt : i < s.cases.length
                · have hili : (i : Int) < (s.cases.length : Int) := by omega
                  have HD2 : Hid (rCs (s.cases.drop i) left p = if p ≤ left then rCs (s.cases.drop (i + 1)) left (p + (1 + rC s.cases[i] (left - p - 1))) else p) := rCs_drop hilt
                  by_cases hpl : p ≤ left
                  · obtain ⟨b', o', hca, d0, d1⟩ := rowC_at HCR.out hilt
                    rw [hca] at c13
                    clear hca
                    rw [if_pos hpl, rC_eq] at HD2
                    have HIc : Hid (Have wr s.cases[i].ba s.cases[i].bc s.cases[i].body) := (Ca.in_iff.1 ((St.in_iff.1 (HI1.out.stay hbq)).2.2.2.2.2.2.2.2 _ (List.getElem_mem hilt))).2
                    have HZc : Hid (ssz s.cases[i].body ≤ k) := by
                      have h1 := csz_mem (List.getElem_mem hilt)
                      have h2 := (s.cases[i]).sz_eq
                      have h3 := s.sz_eq
                      have h4 := HZ.out
                      show ssz s.cases[i].body ≤ k
                      omega
                    generalize s.cases[i] = y at *
                    go_wp2_with fail
                    refine (IH.out y.body y.ba y.bc (left - p - 1) _ HZc.out HIc.out (by omega) (by omega)).mono ?_
                    have b4 := rSs_bd y.body (left - p - 1) 0
                    generalize rSs y.body (left - p - 1) 0 = q4 at b4 HD2 ⊢
                    rintro e w7 ⟨rfl, hb7⟩
                    have hb7' := hbq.trans (hb7.mono hbq.size)
                    clear hb7 c13 d0 d1
                    go_wp2_with fail
                    go_roundw
                    case rel =>
                      refine ⟨i + 1, p + (1 + q4), by omega, by go_num, by go_num, by omega, by omega, ?_, hb7'⟩
                      rw [← HPC.out, HD2.out]
                    case measure => simp [intOf]; omega
                  · rw [if_neg hpl] at HD2
                    have hpe : rCs s.cases left n4 = p := by rw [← HPC.out, HD2.out]
                    have c12 := CX.out _ hbq 12 _ rfl
                    go_wp2_with fail
                    refine (IH.out s.els s.ea s.ec (left - p) _ (by have := s.sz_eq; have := HZ.out; omega) (St.in_iff.1 (HI1.out.stay hbq)).2.2.2.2.2.2.1 (by omega) (by omega)).mono ?_
                    have b5 := rSs_bd s.els (left - p) 0
                    have EQ2 : Hid (rS s left m = p + rSs s.els (left - p) 0) := by show _ = _; rw [EQ.out, hpe]; rfl
                    generalize rSs s.els (left - p) 0 = q5 at b5 EQ2 ⊢
                    rintro e w8 ⟨rfl, hb8⟩
                    have hb8' := hb1.trans ((hbq.trans (hb8.mono hbq.size)).mono hb1.size)
                    clear hb8 c12 c13 hpe
                    go_wp2_with fail
                    go_roundw
                    case rel =>
                      refine ⟨j + 1, p + q5, by omega, by go_num, by go_num, by omega, by omega, ?_, hb8'⟩
                      rw [← HC.out, HD.out, EQ2.out]
                    case measure => simp [intOf]; omega
                · obtain rfl : i = s.cases.length := by omega
                  have hpe : rCs s.cases left n4 = p := by rw [← HPC.out, List.drop_eq_nil_of_le (Nat.le_refl _), rCs]
                  have c12 := CX.out _ hbq 12 _ rfl
                  go_wp2_with fail
                  refine (IH.out s.els s.ea s.ec (left - p) _ (by have := s.sz_eq; have := HZ.out; omega) (St.in_iff.1 (HI1.out.stay hbq)).2.2.2.2.2.2.1 (by omega) (by omega)).mono ?_
                  have b5 := rSs_bd s.els (left - p) 0
                  have EQ2 : Hid (rS s left m = p + rSs s.els (left - p) 0) := by show _ = _; rw [EQ.out, hpe]; rfl
                  generalize rSs s.els (left - p) 0 = q5 at b5 EQ2 ⊢
                  rintro e w8 ⟨rfl, hb8⟩
                  have hb8' := hb1.trans ((hbq.trans (hb8.mono hbq.size)).mono hb1.size)
                  clear hb8 c12 c13 hpe
                  go_wp2_with fail
                  go_roundw
                  case rel =>
                    refine ⟨j + 1, p + q5, by omega, by go_num, by go_num, by omega, by omega, ?_, hb8'⟩
                    rw [← HC.out, HD.out, EQ2.out]
                  case measure => simp [intOf]; omega
          · cases hzb : zeroE s.b
            · have EQ : Hid (rS s left m = rB s.els left (rCs s.cases left ((m + 1) + (1 + rL s.b.args (left - (m + 1) - 1) 0) + rSs s.body (left - ((m + 1) + (1 + rL s.b.args (left - (m + 1) - 1) 0))) 0))) := by
                show _ = _; rw [rS_eq, rZ_t hza, rZ_f hzb]; rfl
              rw [hza] at HZA
              rw [hzb] at HZB
              go_wp2_with fail
              obtain ⟨W1, hW1⟩ : ∃ W1, wr.alloc (.cells #[.int .i64 s.kind, .string s.name, .int .i64 s.n, .int .i64 s.a.kind, .int .i64 s.a.n, .string s.a.name, .slice s.a.a s.a.args.length s.a.cap, .int .i64 s.b.kind, .int .i64 s.b.n, .string s.b.name, .slice s.b.a s.b.args.length s.b.cap, .slice s.ba s.body.length s.bc, .slice s.ea s.els.length s.ec, .slice s.ca s.cases.length s.cc] 44) = W1 := ⟨_, rfl⟩
              have BX : Hid (∀ (j : Nat) v, s.cells[j]? = some v → W1.cell? ⟨wr.heap.size, j, none⟩ = some v) := by
                show ∀ (j : Nat) v, _; intro j v h
                rw [← hW1, World.cell?_alloc_at _ _ _ _ rfl]; simpa [St.cells] using h
              have hb1 : Below w.heap.size w W1 := by rw [← hW1]; exact hb.alloc hws _
              have hbr : Below wr.heap.size wr W1 := by rw [← hW1]; exact (Below.refl _ wr).alloc (Nat.le_refl _) _
              have hs1 : wr.heap.size < W1.heap.size := by rw [← hW1]; simp
              rw [hW1]
              clear hW1 c0 c1 c2 c3 c4 c5 c6 c7 c8 c9 c10 c11 c12 c13
              have HI1 : Hid (s.In W1) := HI.out.stay hbr
              obtain ⟨Z, hZ⟩ : ∃ Z, wr.heap.size = Z := ⟨_, rfl⟩
              rw [hZ] at BX hs1 ⊢
              have CX : Hid (∀ w', Below W1.heap.size W1 w' → ∀ (j : Nat) v, s.cells[j]? = some v → w'.cell? ⟨Z, j, none⟩ = some v) := fun w' h j v e => (h.cell (p := ⟨Z, j, none⟩) hs1).trans (BX.out j v e)
              clear hbr hZ hb hws
              refine (HZA.out W1).mono ?_
              rintro e w2 ⟨rfl, hb2⟩
              have c7 := CX.out _ hb2 7 _ rfl
              have c8 := CX.out _ hb2 8 _ rfl
              have c9 := CX.out _ hb2 9 _ rfl
              have c10 := CX.out _ hb2 10 _ rfl
              go_wp2_with fail
              refine (HZB.out _).mono ?_
              rintro e w4 ⟨rfl, hb4⟩
              have hb4' := hb2.trans (hb4.mono hb2.size)
              clear hb2 hb4 c7 c8 c9 c10
              have c10 := CX.out _ hb4' 10 _ rfl
              go_wp2_with fail
              refine (rexprs_any s.b.args s.b.a s.b.cap (left - (m + 1) - 1) _ ((St.in_iff.1 (HI1.out.stay hb4')).2.2.2.2.1.have) (by omega) (by omega)).mono ?_
              have b2 := rL_bd s.b.args (left - (m + 1) - 1) 0
              generalize rL s.b.args (left - (m + 1) - 1) 0 = q2 at b2 EQ ⊢
              rintro e w5 ⟨rfl, hb5⟩
              have hb5' := hb4'.trans (hb5.mono hb4'.size)
              clear hb4' hb5 c10
              have c11 := CX.out _ hb5' 11 _ rfl
              go_wp2_with fail
              refine (IH.out s.body s.ba s.bc (left - ((m + 1) + (1 + q2))) _ (by have := s.sz_eq; have := HZ.out; omega) (St.in_iff.1 (HI1.out.stay hb5')).2.2.2.2.2.1 (by omega) (by omega)).mono ?_
              have b3 := rSs_bd s.body (left - ((m + 1) + (1 + q2))) 0
              generalize rSs s.body (left - ((m + 1) + (1 + q2))) 0 = q3 at b3 EQ ⊢
              rintro e w6 ⟨rfl, hb6⟩
              have hb6' := hb5'.trans (hb6.mono hb5'.size)
              clear hb5' hb6 c11
              obtain ⟨n4, hn4⟩ : ∃ n4, (m + 1) + (1 + q2) + q3 = n4 := ⟨_, rfl⟩
              have hn4b : 0 ≤ n4 ∧ n4 ≤ left + 3 := by omega
              rw [hn4] at EQ
              have HN4 := show Hid _ from hn4
              clear hn4
              go_wp2_with fail
              go_loopw [5, 8] (fun t5 t8 wq => ∃ (i : Nat) (p : Int), i ≤ s.cases.length ∧ t5 = .int .i64 p ∧ t8 = .int .i64 i ∧ 0 ≤ p ∧ p ≤ left + 3 ∧ rCs (s.cases.drop i) left p = rCs s.cases left n4 ∧ Below W1.heap.size W1 wq) (fun _ t8 _ => s.cases.length - (intOf t8).toNat)
              case atStart => exact ⟨0, n4, Nat.zero_le _, by have := HN4.out; go_num, rfl, hn4b.1, hn4b.2, by simp, hb6'⟩
              case round =>
                obtain ⟨i, p, hi, rfl, rfl, hp0, hp1, hpc, hbq⟩ := hrel
                have HPC : Hid (rCs (s.cases.drop i) left p = rCs s.cases left n4) := hpc
                clear hpc
                obtain ⟨hcl, hcc, _, hcr⟩ := (St.in_iff.1 (HI1.out.stay hbq)).2.2.2.2.2.2.2.1
                have HCR : Hid (RowIn wr s.ca 2 (s.cases.map Ca.cells)) := hcr
                clear hcr
                have c13 := CX.out _ hbq 13 _ rfl
                by_cases hilt : i < s.cases.length
                · have hili : (i : Int) < (s.cases.length : Int) := by omega
                  have HD2 : Hid (rCs (s.cases.drop i) left p = if p ≤ left then rCs (s.cases.drop (i + 1)) left (p + (1 + rC s.cases[i] (left - p - 1))) else p) := rCs_drop hilt
                  by_cases hpl : p ≤ left
                  · obtain ⟨b', o', hca, d0, d1⟩ := rowC_at HCR.out hilt
                    rw [hca] at c13
                    clear hca
                    rw [if_pos hpl, rC_eq] at HD2
                    have HIc : Hid (Have wr s.cases[i].ba s.cases[i].bc s.cases[i].body) := (Ca.in_iff.1 ((St.in_iff.1 (HI1.out.stay hbq)).2.2.2.2.2.2.2.2 _ (List.getElem_mem hilt))).2
                    have HZc : Hid (ssz s.cases[i].body ≤ k) := by
                      have h1 := csz_mem (List.getElem_mem hilt)
                      have h2 := (s.cases[i]).sz_eq
                      have h3 := s.sz_eq
                      have h4 := HZ.out
                      show ssz s.cases[i].body ≤ k
                      omega
                    generalize s.cases[i] = y at *
                    go_wp2_with fail
                    refine (IH.out y.body y.ba y.bc (left - p - 1) _ HZc.out HIc.out (by omega) (by omega)).mono ?_
                    have b4 := rSs_bd y.body (left - p - 1) 0
                    generalize rSs y.body (left - p - 1) 0 = q4 at b4 HD2 ⊢
                    rintro e w7 ⟨rfl, hb7⟩
                    have hb7' := hbq.trans (hb7.mono hbq.size)
                    clear hb7 c13 d0 d1
                    go_wp2_with fail
                    go_roundw
                    case rel =>
                      refine ⟨i + 1, p + (1 + q4), by omega, by go_num, by go_num, by omega, by omega, ?_, hb7'⟩
                      rw [← HPC.out, HD2.out]
                    case measure => simp [intOf]; omega
                  · rw [if_neg hpl] at HD2
                    have hpe : rCs s.cases left n4 = p := by rw [← HPC.out, HD2.out]
                    have c12 := CX.out _ hbq 12 _ rfl
                    go_wp2_with fail
                    refine (IH.out s.els s.ea s.ec (left - p) _ (by have := s.sz_eq; have := HZ.out; omega) (St.in_iff.1 (HI1.out.stay hbq)).2.2.2.2.2.2.1 (by omega) (by omega)).mono ?_
                    have b5 := rSs_bd s.els (left - p) 0
                    have EQ2 : Hid (rS s left m = p + rSs s.els (left - p) 0) := by show _ = _; rw [EQ.out, hpe]; rfl
                    generalize rSs s.els (left - p) 0 = q5 at b5 EQ2 ⊢
                    rintro e w8 ⟨rfl, hb8⟩
                    have hb8' := hb1.trans ((hbq.trans (hb8.mono hbq.size)).mono hb1.size)
                    clear hb8 c12 c13 hpe
                    go_wp2_with fail
                    go_roundw
                    case rel =>
                      refine ⟨j + 1, p + q5, by omega, by go_num, by go_num, by omega, by omega, ?_, hb8'⟩
                      rw [← HC.out, HD.out, EQ2.out]
                    case measure => simp [intOf]; omega
                · obtain rfl : i = s.cases.length := by omega
                  have hpe : rCs s.cases left n4 = p := by rw [← HPC.out, List.drop_eq_nil_of_le (Nat.le_refl _), rCs]
                  have c12 := CX.out _ hbq 12 _ rfl
                  go_wp2_with fail
                  refine (IH.out s.els s.ea s.ec (left - p) _ (by have := s.sz_eq; have := HZ.out; omega) (St.in_iff.1 (HI1.out.stay hbq)).2.2.2.2.2.2.1 (by omega) (by omega)).mono ?_
                  have b5 := rSs_bd s.els (left - p) 0
                  have EQ2 : Hid (rS s left m = p + rSs s.els (left - p) 0) := by show _ = _; rw [EQ.out, hpe]; rfl
                  generalize rSs s.els (left - p) 0 = q5 at b5 EQ2 ⊢
                  rintro e w8 ⟨rfl, hb8⟩
                  have hb8' := hb1.trans ((hbq.trans (hb8.mono hbq.size)).mono hb1.size)
                  clear hb8 c12 c13 hpe
                  go_wp2_with fail
                  go_roundw
                  case rel =>
                    refine ⟨j + 1, p + q5, by omega, by go_num, by go_num, by omega, by omega, ?_, hb8'⟩
                    rw [← HC.out, HD.out, EQ2.out]
                  case measure => simp [intOf]; omega
            · have EQ : Hid (rS s left m = rB s.els left (rCs s.cases left (m + 1 + rSs s.body (left - (m + 1)) 0))) := by
                show _ = _; rw [rS_eq, rZ_t hza, rZ_t hzb]; rfl
              rw [hza] at HZA
              rw [hzb] at HZB
              go_wp2_with fail
              obtain ⟨W1, hW1⟩ : ∃ W1, wr.alloc (.cells #[.int .i64 s.kind, .string s.name, .int .i64 s.n, .int .i64 s.a.kind, .int .i64 s.a.n, .string s.a.name, .slice s.a.a s.a.args.length s.a.cap, .int .i64 s.b.kind, .int .i64 s.b.n, .string s.b.name, .slice s.b.a s.b.args.length s.b.cap, .slice s.ba s.body.length s.bc, .slice s.ea s.els.length s.ec, .slice s.ca s.cases.length s.cc] 44) = W1 := ⟨_, rfl⟩
              have BX : Hid (∀ (j : Nat) v, s.cells[j]? = some v → W1.cell? ⟨wr.heap.size, j, none⟩ = some v) := by
                show ∀ (j : Nat) v, _; intro j v h
                rw [← hW1, World.cell?_alloc_at _ _ _ _ rfl]; simpa [St.cells] using h
              have hb1 : Below w.heap.size w W1 := by rw [← hW1]; exact hb.alloc hws _
              have hbr : Below wr.heap.size wr W1 := by rw [← hW1]; exact (Below.refl _ wr).alloc (Nat.le_refl _) _
              have hs1 : wr.heap.size < W1.heap.size := by rw [← hW1]; simp
              rw [hW1]
              clear hW1 c0 c1 c2 c3 c4 c5 c6 c7 c8 c9 c10 c11 c12 c13
              have HI1 : Hid (s.In W1) := HI.out.stay hbr
              obtain ⟨Z, hZ⟩ : ∃ Z, wr.heap.size = Z := ⟨_, rfl⟩
              rw [hZ] at BX hs1 ⊢
              have CX : Hid (∀ w', Below W1.heap.size W1 w' → ∀ (j : Nat) v, s.cells[j]? = some v → w'.cell? ⟨Z, j, none⟩ = some v) := fun w' h j v e => (h.cell (p := ⟨Z, j, none⟩) hs1).trans (BX.out j v e)
              clear hbr hZ hb hws
              refine (HZA.out W1).mono ?_
              rintro e w2 ⟨rfl, hb2⟩
              have c7 := CX.out _ hb2 7 _ rfl
              have c8 := CX.out _ hb2 8 _ rfl
              have c9 := CX.out _ hb2 9 _ rfl
              have c10 := CX.out _ hb2 10 _ rfl
              go_wp2_with fail
              refine (HZB.out _).mono ?_
              rintro e w4 ⟨rfl, hb4⟩
              have hb4' := hb2.trans (hb4.mono hb2.size)
              clear hb2 hb4 c7 c8 c9 c10
              have c11 := CX.out _ hb4' 11 _ rfl
              go_wp2_with fail
              refine (IH.out s.body s.ba s.bc (left - (m + 1)) _ (by have := s.sz_eq; have := HZ.out; omega) (St.in_iff.1 (HI1.out.stay hb4')).2.2.2.2.2.1 (by omega) (by omega)).mono ?_
              have b3 := rSs_bd s.body (left - (m + 1)) 0
              generalize rSs s.body (left - (m + 1)) 0 = q3 at b3 EQ ⊢
              rintro e w6 ⟨rfl, hb6⟩
              have hb6' := hb4'.trans (hb6.mono hb4'.size)
              clear hb4' hb6 c11
              obtain ⟨n4, hn4⟩ : ∃ n4, m + 1 + q3 = n4 := ⟨_, rfl⟩
              have hn4b : 0 ≤ n4 ∧ n4 ≤ left + 3 := by omega
              rw [hn4] at EQ
              have HN4 := show Hid _ from hn4
              clear hn4
              go_wp2_with fail
              go_loopw [5, 8] (fun t5 t8 wq => ∃ (i : Nat) (p : Int), i ≤ s.cases.length ∧ t5 = .int .i64 p ∧ t8 = .int .i64 i ∧ 0 ≤ p ∧ p ≤ left + 3 ∧ rCs (s.cases.drop i) left p = rCs s.cases left n4 ∧ Below W1.heap.size W1 wq) (fun _ t8 _ => s.cases.length - (intOf t8).toNat)
              case atStart => exact ⟨0, n4, Nat.zero_le _, by have := HN4.out; go_num, rfl, hn4b.1, hn4b.2, by simp, hb6'⟩
              case round =>
                obtain ⟨i, p, hi, rfl, rfl, hp0, hp1, hpc, hbq⟩ := hrel
                have HPC : Hid (rCs (s.cases.drop i) left p = rCs s.cases left n4) := hpc
                clear hpc
                obtain ⟨hcl, hcc, _, hcr⟩ := (St.in_iff.1 (HI1.out.stay hbq)).2.2.2.2.2.2.2.1
                have HCR : Hid (RowIn wr s.ca 2 (s.cases.map Ca.cells)) := hcr
                clear hcr
                have c13 := CX.out _ hbq 13 _ rfl
                by_cases hilt : i < s.cases.length
                · have hili : (i : Int) < (s.cases.length : Int) := by omega
                  have HD2 : Hid (rCs (s.cases.drop i) left p = if p ≤ left then rCs (s.cases.drop (i + 1)) left (p + (1 + rC s.cases[i] (left - p - 1))) else p) := rCs_drop hilt
                  by_cases hpl : p ≤ left
                  · obtain ⟨b', o', hca, d0, d1⟩ := rowC_at HCR.out hilt
                    rw [hca] at c13
                    clear hca
                    rw [if_pos hpl, rC_eq] at HD2
                    have HIc : Hid (Have wr s.cases[i].ba s.cases[i].bc s.cases[i].body) := (Ca.in_iff.1 ((St.in_iff.1 (HI1.out.stay hbq)).2.2.2.2.2.2.2.2 _ (List.getElem_mem hilt))).2
                    have HZc : Hid (ssz s.cases[i].body ≤ k) := by
                      have h1 := csz_mem (List.getElem_mem hilt)
                      have h2 := (s.cases[i]).sz_eq
                      have h3 := s.sz_eq
                      have h4 := HZ.out
                      show ssz s.cases[i].body ≤ k
                      omega
                    generalize s.cases[i] = y at *
                    go_wp2_with fail
                    refine (IH.out y.body y.ba y.bc (left - p - 1) _ HZc.out HIc.out (by omega) (by omega)).mono ?_
                    have b4 := rSs_bd y.body (left - p - 1) 0
                    generalize rSs y.body (left - p - 1) 0 = q4 at b4 HD2 ⊢
                    rintro e w7 ⟨rfl, hb7⟩
                    have hb7' := hbq.trans (hb7.mono hbq.size)
                    clear hb7 c13 d0 d1
                    go_wp2_with fail
                    go_roundw
                    case rel =>
                      refine ⟨i + 1, p + (1 + q4), by omega, by go_num, by go_num, by omega, by omega, ?_, hb7'⟩
                      rw [← HPC.out, HD2.out]
                    case measure => simp [intOf]; omega
                  · rw [if_neg hpl] at HD2
                    have hpe : rCs s.cases left n4 = p := by rw [← HPC.out, HD2.out]
                    have c12 := CX.out _ hbq 12 _ rfl
                    go_wp2_with fail
                    refine (IH.out s.els s.ea s.ec (left - p) _ (by have := s.sz_eq; have := HZ.out; omega) (St.in_iff.1 (HI1.out.stay hbq)).2.2.2.2.2.2.1 (by omega) (by omega)).mono ?_
                    have b5 := rSs_bd s.els (left - p) 0
                    have EQ2 : Hid (rS s left m = p + rSs s.els (left - p) 0) := by show _ = _; rw [EQ.out, hpe]; rfl
                    generalize rSs s.els (left - p) 0 = q5 at b5 EQ2 ⊢
                    rintro e w8 ⟨rfl, hb8⟩
                    have hb8' := hb1.trans ((hbq.trans (hb8.mono hbq.size)).mono hb1.size)
                    clear hb8 c12 c13 hpe
                    go_wp2_with fail
                    go_roundw
                    case rel =>
                      refine ⟨j + 1, p + q5, by omega, by go_num, by go_num, by omega, by omega, ?_, hb8'⟩
                      rw [← HC.out, HD.out, EQ2.out]
                    case measure => simp [intOf]; omega
                · obtain rfl : i = s.cases.length := by omega
                  have hpe : rCs s.cases left n4 = p := by rw [← HPC.out, List.drop_eq_nil_of_le (Nat.le_refl _), rCs]
                  have c12 := CX.out _ hbq 12 _ rfl
                  go_wp2_with fail
                  refine (IH.out s.els s.ea s.ec (left - p) _ (by have := s.sz_eq; have := HZ.out; omega) (St.in_iff.1 (HI1.out.stay hbq)).2.2.2.2.2.2.1 (by omega) (by omega)).mono ?_
                  have b5 := rSs_bd s.els (left - p) 0
                  have EQ2 : Hid (rS s left m = p + rSs s.els (left - p) 0) := by show _ = _; rw [EQ.out, hpe]; rfl
                  generalize rSs s.els (left - p) 0 = q5 at b5 EQ2 ⊢
                  rintro e w8 ⟨rfl, hb8⟩
                  have hb8' := hb1.trans ((hbq.trans (hb8.mono hbq.size)).mono hb1.size)
                  clear hb8 c12 c13 hpe
                  go_wp2_with fail
                  go_roundw
                  case rel =>
                    refine ⟨j + 1, p + q5, by omega, by go_num, by go_num, by omega, by omega, ?_, hb8'⟩
                    rw [← HC.out, HD.out, EQ2.out]
                  case measure => simp [intOf]; omega
        · rw [if_neg hm] at HD
          go_wp2_with fail
          go_ret
          exact ⟨ret_int (by rw [← HC.out, HD.out]), hb⟩
      · obtain rfl : j = l.length := by omega
        go_wp2_with fail
        go_ret
        exact ⟨ret_int (by rw [← HC.out, List.drop_eq_nil_of_le (Nat.le_refl _), rSs]), hb⟩
theorem rstmts_any (l : List St) (a : Option Addr) (c : Nat) (left : Int) (w : World) (hin : Have w a c l) (h0 : -8 ≤ left) (h1 : left ≤ 4611686018427387904) :
    Calls Tryd.prog 25 #[.slice a l.length c, .int .i64 left] w fun e w' => e = .returned (.int .i64 (rSs l left 0)) ∧ Below w.heap.size w w' := rstmts_k _ l a c left w (Nat.le_refl _) hin h0 h1
end Go.Proofs.YtkkcgkpbbngloaaDoor

/- Copies: programs without their addresses; the blocks in which a program lies; programs of which each list has a block of its own, with room for one more. -/
namespace Go.Proofs.YtkkcgkpbbngloaaDoor
open Go.RowKit

/- Without addresses. -/
mutual
def Ex.er : Ex → Ex | .mk k n s _ _ l => .mk k n s none 0 (erL l)
def erL : List Ex → List Ex | [] => [] | x :: r => x.er :: erL r
end
mutual
def St.er : St → St | .mk k s n a b _ _ l _ _ e _ _ c => .mk k s n a.er b.er none 0 (erS l) none 0 (erS e) none 0 (erC c)
def Ca.er : Ca → Ca | .mk n _ _ l => .mk n none 0 (erS l)
def erS : List St → List St | [] => [] | x :: r => x.er :: erS r
def erC : List Ca → List Ca | [] => [] | x :: r => x.er :: erC r
end
def Fu.er (f : Fu) : Fu := ⟨f.name, none, 0, f.params, none, 0, erS f.body⟩
def Pr.er (p : Pr) : Pr := ⟨none, 0, p.widen, none, 0, p.funcs.map Fu.er⟩
theorem erL_map (l : List Ex) : erL l = l.map Ex.er := by induction l <;> simp_all [erL]
theorem erS_map (l : List St) : erS l = l.map St.er := by induction l <;> simp_all [erS]
theorem erC_map (l : List Ca) : erC l = l.map Ca.er := by induction l <;> simp_all [erC]
theorem Ex.er_eq (x : Ex) : x.er = .mk x.kind x.n x.name none 0 (erL x.args) := by cases x; simp only [Ex.er, Ex.kind, Ex.n, Ex.name, Ex.args]
theorem St.er_eq (s : St) : s.er = .mk s.kind s.name s.n s.a.er s.b.er none 0 (erS s.body) none 0 (erS s.els) none 0 (erC s.cases) := by
  cases s; simp only [St.er, St.kind, St.name, St.n, St.a, St.b, St.body, St.els, St.cases]
theorem Ca.er_eq (c : Ca) : c.er = .mk c.n none 0 (erS c.body) := by cases c; simp only [Ca.er, Ca.n, Ca.body]

theorem samE_er (k : Nat) : (∀ x y : Ex, x.sz ≤ k → x.er = y.er → samE x y = true) ∧ (∀ l t : List Ex, szL l ≤ k → erL l = erL t → samEs l t = true) := by
  induction k with
  | zero =>
    refine ⟨fun x y hk => by have := x.sz_args; omega, fun l t hk h => ?_⟩
    cases l with
    | nil => cases t with
      | nil => simp [samEs]
      | cons y t => simp [erL] at h
    | cons x r => rw [szL] at hk; have := x.sz_args; omega
  | succ k ih =>
    have h1 : ∀ x y : Ex, x.sz ≤ k + 1 → x.er = y.er → samE x y = true := fun x y hk h => by
      rw [x.er_eq, y.er_eq] at h
      injection h with e1 e2 e3 _ _ e6
      rw [samE_eq, e1, e2, e3, ih.2 _ _ (by have := x.sz_args; omega) e6]
      simp
    refine ⟨h1, fun l => ?_⟩
    induction l with
    | nil => intro t _ h; cases t with
      | nil => simp [samEs]
      | cons y t => simp [erL] at h
    | cons x r ihr =>
      intro t hk h
      cases t with
      | nil => simp [erL] at h
      | cons y t =>
        rw [szL] at hk
        simp only [erL, List.cons.injEq] at h
        rw [samEs, h1 x y (by omega) h.1, ihr t (by omega) h.2]; rfl

theorem samS_er (k : Nat) : (∀ x y : St, x.sz ≤ k → x.er = y.er → samS x y = true) ∧ (∀ l t : List St, ssz l ≤ k → erS l = erS t → samSs l t = true) ∧ (∀ l t : List Ca, csz l ≤ k → erC l = erC t → samCs l t = true) := by
  induction k with
  | zero =>
    refine ⟨fun x y hk => by have := x.sz_eq; omega, fun l t hk h => ?_, fun l t hk h => ?_⟩
    · cases l with
      | nil => cases t with
        | nil => simp [samSs]
        | cons y t => simp [erS] at h
      | cons x r => rw [ssz] at hk; have := x.sz_eq; omega
    · cases l with
      | nil => cases t with
        | nil => simp [samCs]
        | cons y t => simp [erC] at h
      | cons x r => rw [csz] at hk; have := x.sz_eq; omega
  | succ k ih =>
    have h1 : ∀ x y : St, x.sz ≤ k + 1 → x.er = y.er → samS x y = true := fun x y hk h => by
      rw [x.er_eq, y.er_eq] at h
      have hz := x.sz_eq
      injection h with e1 e2 e3 e4 e5 _ _ e6 _ _ e7 _ _ e8
      rw [samS_eq, e1, e2, e3, (samE_er _).1 _ _ (Nat.le_refl _) e4, (samE_er _).1 _ _ (Nat.le_refl _) e5, ih.2.1 _ _ (by omega) e6, ih.2.1 _ _ (by omega) e7, ih.2.2 _ _ (by omega) e8]
      simp
    refine ⟨h1, fun l => ?_, fun l => ?_⟩
    · induction l with
      | nil => intro t _ h; cases t with
        | nil => simp [samSs]
        | cons y t => simp [erS] at h
      | cons x r ihr =>
        intro t hk h
        cases t with
        | nil => simp [erS] at h
        | cons y t =>
          rw [ssz] at hk
          simp only [erS, List.cons.injEq] at h
          rw [samSs, h1 x y (by omega) h.1, ihr t (by omega) h.2]; rfl
    · induction l with
      | nil => intro t _ h; cases t with
        | nil => simp [samCs]
        | cons y t => simp [erC] at h
      | cons x r ihr =>
        intro t hk h
        cases t with
        | nil => simp [erC] at h
        | cons y t =>
          rw [csz] at hk
          simp only [erC, List.cons.injEq] at h
          have h2 := h.1
          rw [x.er_eq, y.er_eq] at h2
          injection h2 with e1 _ _ e4
          rw [samCs, samC_eq, e1, ih.2.1 _ _ (by have := x.sz_eq; omega) e4, ihr t (by omega) h.2]; simp
theorem samI_self (l : List Int) : samI l l = true := by induction l <;> simp_all [samI]
theorem samPs_self (l : List Pa) : samPs l l = true := by induction l <;> simp_all [samPs, samP]
theorem samPr_er {p q : Pr} (h : p.er = q.er) : samPr p q = true := by
  unfold Pr.er at h
  injection h with _ _ e1 _ _ e2
  unfold samPr
  rw [e1, samI_self, Bool.true_and]
  generalize p.funcs = l at e2
  generalize q.funcs = t at e2
  induction l generalizing t with
  | nil => cases t with
    | nil => rfl
    | cons y t => simp at e2
  | cons x r ih =>
    cases t with
    | nil => simp at e2
    | cons y t =>
      simp only [List.map_cons, List.cons.injEq] at e2
      rw [samFs, ih t e2.2, Bool.and_true]
      have := e2.1
      unfold Fu.er at this
      injection this with f1 _ _ f2 _ _ f3
      unfold samF
      rw [f1, f2, samPs_self, (samS_er _).2.1 _ _ (Nat.le_refl _) f3]; simp

/-- The blocks of a program's lists. -/
def blk : Option Addr → Nat | some a => a.block | none => 0
mutual
def Ex.bl : Ex → List Nat | .mk _ _ _ a _ l => blk a :: blL l
def blL : List Ex → List Nat | [] => [] | x :: r => x.bl ++ blL r
end
mutual
def St.bl : St → List Nat | .mk _ _ _ a b ba _ l ea _ e ca _ c => a.bl ++ (b.bl ++ (blk ba :: blS l ++ (blk ea :: blS e ++ (blk ca :: blC c))))
def Ca.bl : Ca → List Nat | .mk _ a _ l => blk a :: blS l
def blS : List St → List Nat | [] => [] | x :: r => x.bl ++ blS r
def blC : List Ca → List Nat | [] => [] | x :: r => x.bl ++ blC r
end
def Fu.bl (f : Fu) : List Nat := blk f.pa :: blk f.ba :: blS f.body
def Pr.bl (p : Pr) : List Nat := blk p.wa :: blk p.fa :: p.funcs.flatMap Fu.bl
theorem Ex.bl_eq (x : Ex) : x.bl = blk x.a :: blL x.args := by cases x; simp only [Ex.bl, Ex.a, Ex.args]
theorem St.bl_eq (s : St) : s.bl = s.a.bl ++ (s.b.bl ++ (blk s.ba :: blS s.body ++ (blk s.ea :: blS s.els ++ (blk s.ca :: blC s.cases)))) := by
  cases s; simp only [St.bl, St.a, St.b, St.ba, St.body, St.ea, St.els, St.ca, St.cases]
theorem Ca.bl_eq (c : Ca) : c.bl = blk c.ba :: blS c.body := by cases c; simp only [Ca.bl, Ca.ba, Ca.body]
theorem blL_map (l : List Ex) : blL l = l.flatMap Ex.bl := by induction l <;> simp_all [blL]
theorem blS_map (l : List St) : blS l = l.flatMap St.bl := by induction l <;> simp_all [blS]
theorem blC_map (l : List Ca) : blC l = l.flatMap Ca.bl := by induction l <;> simp_all [blC]

/-- A list has a block of its own, with room for one more, and that one is there. -/
def RowCp (W : World) (a : Option Addr) (c n B : Nat) (T : TypeId) (cs : List Value) : Prop := ∃ g, a = some ⟨g, 0, none⟩ ∧ c = n + 1 ∧ c * B ≤ 140737488351232 ∧ W.heap[g]? = some (.cells ⟨cs⟩ T (0, 0))
theorem RowCp.keep {W W' : World} {a : Option Addr} {c n B : Nat} {T : TypeId} {cs : List Value} (h : RowCp W a c n B T cs) (hk : W'.heap[blk a]? = W.heap[blk a]?) : RowCp W' a c n B T cs := by
  obtain ⟨g, rfl, h1, h2, h3⟩ := h
  exact ⟨g, rfl, h1, h2, hk.trans h3⟩
theorem flatC_at {α : Type} {f : α → List Value} {k : Nat} (hf : ∀ x, (f x).length = k) (r : List Value) : ∀ (l : List α) (i : Nat) (x : α) (j : Nat), l[i]? = some x → j < k → (l.flatMap f ++ r)[i * k + j]? = (f x)[j]?
  | [], i, x, j, h, _ => by simp at h
  | y :: l, 0, x, j, h, hj => by
    simp at h; subst h
    rw [List.flatMap_cons, List.append_assoc, List.getElem?_append_left (by rw [hf]; omega)]; simp
  | y :: l, i + 1, x, j, h, hj => by
    rw [List.flatMap_cons, List.append_assoc, List.getElem?_append_right (by rw [hf, Nat.add_mul]; omega), hf]
    have := flatC_at hf r l i x j (by simpa using h) hj
    rw [← this]; congr 1; rw [Nat.add_mul]; omega
theorem RowCp.row {W : World} {a : Option Addr} {c n B : Nat} {T : TypeId} {α : Type} {f : α → List Value} {k : Nat} {l : List α} {r : List Value} (h : RowCp W a c n B T (l.flatMap f ++ r)) (hf : ∀ x, (f x).length = k) : RowIn W a k (l.map f) := by
  obtain ⟨g, rfl, _, _, h3⟩ := h
  intro i cs hi
  rw [List.getElem?_map, Option.map_eq_some_iff] at hi
  obtain ⟨x, hx, rfl⟩ := hi
  refine ⟨g, 0, rfl, fun j v hj => ?_⟩
  have hjl := (List.getElem?_eq_some_iff.1 hj).1
  rw [hf] at hjl
  have := flatC_at hf r l i x j hx hjl
  rw [hj] at this
  simp [World.cell?, h3, this]

def senE : List Value := [.int .i64 (-77), .int .i64 0, .string ⟨#[]⟩, .slice none 0 0]
def senS : List Value := [.int .i64 (-77), .string ⟨#[]⟩, .int .i64 0, .int .i64 0, .int .i64 0, .string ⟨#[]⟩, .slice none 0 0, .int .i64 0, .int .i64 0, .string ⟨#[]⟩, .slice none 0 0, .slice none 0 0, .slice none 0 0, .slice none 0 0]
def senC : List Value := [.int .i64 (-77), .slice none 0 0]
def senP : List Value := [.string ⟨#[63]⟩, .int .i64 0, .int .i64 0]
def senF : List Value := [.string ⟨#[63]⟩, .slice none 0 0, .slice none 0 0]
mutual
def Ex.Cp (W : World) : Ex → Prop
  | .mk k n s a c l => I64 k ∧ I64 n ∧ s.size ≤ 140737488351232 ∧ RowCp W a c l.length 56 41 (l.flatMap Ex.cells ++ senE) ∧ CpL W l
def CpL (W : World) : List Ex → Prop
  | [] => True
  | x :: r => x.Cp W ∧ CpL W r
end
mutual
def St.Cp (W : World) : St → Prop
  | .mk k s n a b ba bc l ea ec e ca cc c => I64 k ∧ s.size ≤ 140737488351232 ∧ I64 n ∧ a.Cp W ∧ b.Cp W ∧ RowCp W ba bc l.length 216 44 (l.flatMap St.cells ++ senS) ∧ RowCp W ea ec e.length 216 44 (e.flatMap St.cells ++ senS) ∧ RowCp W ca cc c.length 32 64 (c.flatMap Ca.cells ++ senC) ∧ CpS W l ∧ CpS W e ∧ CpC W c
def Ca.Cp (W : World) : Ca → Prop
  | .mk n a c l => I64 n ∧ RowCp W a c l.length 216 44 (l.flatMap St.cells ++ senS) ∧ CpS W l
def CpS (W : World) : List St → Prop
  | [] => True
  | x :: r => x.Cp W ∧ CpS W r
def CpC (W : World) : List Ca → Prop
  | [] => True
  | x :: r => x.Cp W ∧ CpC W r
end
theorem cpL_mem {W : World} {l : List Ex} : CpL W l ↔ ∀ x ∈ l, x.Cp W := by induction l <;> simp_all [CpL]
theorem cpS_mem {W : World} {l : List St} : CpS W l ↔ ∀ x ∈ l, x.Cp W := by induction l <;> simp_all [CpS]
theorem cpC_mem {W : World} {l : List Ca} : CpC W l ↔ ∀ x ∈ l, x.Cp W := by induction l <;> simp_all [CpC]
theorem Ex.cp_iff {W : World} {x : Ex} : x.Cp W ↔ I64 x.kind ∧ I64 x.n ∧ x.name.size ≤ 140737488351232 ∧ RowCp W x.a x.cap x.args.length 56 41 (x.args.flatMap Ex.cells ++ senE) ∧ ∀ y ∈ x.args, y.Cp W := by
  cases x; simp only [Ex.Cp, Ex.kind, Ex.n, Ex.name, Ex.a, Ex.cap, Ex.args, cpL_mem]
theorem St.cp_iff {W : World} {s : St} : s.Cp W ↔ I64 s.kind ∧ s.name.size ≤ 140737488351232 ∧ I64 s.n ∧ s.a.Cp W ∧ s.b.Cp W ∧ RowCp W s.ba s.bc s.body.length 216 44 (s.body.flatMap St.cells ++ senS) ∧ RowCp W s.ea s.ec s.els.length 216 44 (s.els.flatMap St.cells ++ senS) ∧ RowCp W s.ca s.cc s.cases.length 32 64 (s.cases.flatMap Ca.cells ++ senC) ∧
    (∀ x ∈ s.body, x.Cp W) ∧ (∀ x ∈ s.els, x.Cp W) ∧ ∀ x ∈ s.cases, x.Cp W := by
  cases s; simp only [St.Cp, St.kind, St.name, St.n, St.a, St.b, St.ba, St.bc, St.body, St.ea, St.ec, St.els, St.ca, St.cc, St.cases, cpS_mem, cpC_mem]
theorem Ca.cp_iff {W : World} {c : Ca} : c.Cp W ↔ I64 c.n ∧ RowCp W c.ba c.bc c.body.length 216 44 (c.body.flatMap St.cells ++ senS) ∧ ∀ x ∈ c.body, x.Cp W := by
  cases c; simp only [Ca.Cp, Ca.n, Ca.ba, Ca.bc, Ca.body, cpS_mem]

theorem Ex.Cp.toIn {W : World} : ∀ (k : Nat) (x : Ex), x.sz ≤ k → x.Cp W → x.In W := by
  intro k
  induction k with
  | zero => intro x hk; have := x.sz_args; omega
  | succ k ih =>
    intro x hk h
    obtain ⟨h1, h2, h3, h4, h5⟩ := Ex.cp_iff.1 h
    have hr := h4.row (k := 4) (fun x => rfl)
    obtain ⟨g, e, e1, e2, _⟩ := h4
    refine Ex.in_iff.2 ⟨h1, h2, h3, by omega, e2, fun h => (by rw [e] at h; cases h), hr, fun y hy => ih y ?_ (h5 y hy)⟩
    have := x.sz_args; have := szL_mem hy; omega
theorem Ex.Cp.in {W : World} {x : Ex} (h : x.Cp W) : x.In W := Ex.Cp.toIn _ x (Nat.le_refl _) h
theorem cp_in {W : World} (k : Nat) : (∀ s : St, s.sz ≤ k → s.Cp W → s.In W) ∧ (∀ c : Ca, c.sz ≤ k → c.Cp W → c.In W) := by
  induction k with
  | zero => exact ⟨fun s h => by have := s.sz_eq; omega, fun c h => by have := c.sz_eq; omega⟩
  | succ k ih =>
    have lies : ∀ {a : Option Addr} {c : Nat} {l : List St}, RowCp W a c l.length 216 44 (l.flatMap St.cells ++ senS) → Lies W a c l := fun {a c l} h => by
      have hr := h.row (k := 14) (fun x => rfl)
      obtain ⟨g, e, e1, e2, _⟩ := h
      exact ⟨by omega, e2, fun h => (by rw [e] at h; cases h), hr⟩
    refine ⟨fun s hk h => ?_, fun c hk h => ?_⟩
    · obtain ⟨h1, h2, h3, h4, h5, h6, h7, h8, h9, h10, h11⟩ := St.cp_iff.1 h
      have := s.sz_eq
      have hr := h8.row (k := 2) (fun x => rfl)
      obtain ⟨g, e, e1, e2, _⟩ := h8
      refine St.in_iff.2 ⟨h1, h2, h3, h4.in, h5.in, ⟨lies h6, fun x hx => ih.1 x ?_ (h9 x hx)⟩, ⟨lies h7, fun x hx => ih.1 x ?_ (h10 x hx)⟩, ⟨by omega, e2, fun h => (by rw [e] at h; cases h), hr⟩, fun x hx => ih.2 x ?_ (h11 x hx)⟩
      · have := ssz_mem hx; omega
      · have := ssz_mem hx; omega
      · have := csz_mem hx; omega
    · obtain ⟨h1, h2, h3⟩ := Ca.cp_iff.1 h
      have := c.sz_eq
      refine Ca.in_iff.2 ⟨h1, lies h2, fun x hx => ih.1 x ?_ (h3 x hx)⟩
      have := ssz_mem hx; omega
theorem St.Cp.in {W : World} {s : St} (h : s.Cp W) : s.In W := (cp_in _).1 s (Nat.le_refl _) h

/-- What lies in blocks that are as they were is there as it was. -/
theorem Ex.Cp.keep {W W' : World} : ∀ (k : Nat) (x : Ex), x.sz ≤ k → x.Cp W → (∀ b ∈ x.bl, W'.heap[b]? = W.heap[b]?) → x.Cp W' := by
  intro k
  induction k with
  | zero => intro x hk; have := x.sz_args; omega
  | succ k ih =>
    intro x hk h hb
    obtain ⟨h1, h2, h3, h4, h5⟩ := Ex.cp_iff.1 h
    rw [x.bl_eq] at hb
    refine Ex.cp_iff.2 ⟨h1, h2, h3, h4.keep (hb _ (List.mem_cons_self ..)), fun y hy => ih y ?_ (h5 y hy) (fun b hbb => hb b (List.mem_cons_of_mem _ ?_))⟩
    · have := x.sz_args; have := szL_mem hy; omega
    · rw [blL_map]; exact List.mem_flatMap.2 ⟨y, hy, hbb⟩
theorem Ex.Cp.kept {W W' : World} {x : Ex} (h : x.Cp W) (hb : ∀ b ∈ x.bl, W'.heap[b]? = W.heap[b]?) : x.Cp W' := Ex.Cp.keep _ x (Nat.le_refl _) h hb
theorem cp_keep {W W' : World} (k : Nat) : (∀ s : St, s.sz ≤ k → s.Cp W → (∀ b ∈ s.bl, W'.heap[b]? = W.heap[b]?) → s.Cp W') ∧ (∀ c : Ca, c.sz ≤ k → c.Cp W → (∀ b ∈ c.bl, W'.heap[b]? = W.heap[b]?) → c.Cp W') := by
  induction k with
  | zero => exact ⟨fun s h => by have := s.sz_eq; omega, fun c h => by have := c.sz_eq; omega⟩
  | succ k ih =>
    refine ⟨fun s hk h hb => ?_, fun c hk h hb => ?_⟩
    · obtain ⟨h1, h2, h3, h4, h5, h6, h7, h8, h9, h10, h11⟩ := St.cp_iff.1 h
      have := s.sz_eq
      rw [s.bl_eq] at hb
      simp only [List.mem_append, List.mem_cons, List.cons_append] at hb
      refine St.cp_iff.2 ⟨h1, h2, h3, h4.kept fun b h => hb b (by simp [h]), h5.kept fun b h => hb b (by simp [h]), h6.keep (hb _ (by simp)), h7.keep (hb _ (by simp)), h8.keep (hb _ (by simp)), fun x hx => ih.1 x ?_ (h9 x hx) fun b h => hb b ?_, fun x hx => ih.1 x ?_ (h10 x hx) fun b h => hb b ?_, fun x hx => ih.2 x ?_ (h11 x hx) fun b h => hb b ?_⟩
      · have := ssz_mem hx; omega
      · have : b ∈ blS s.body := by rw [blS_map]; exact List.mem_flatMap.2 ⟨x, hx, h⟩
        simp [this]
      · have := ssz_mem hx; omega
      · have : b ∈ blS s.els := by rw [blS_map]; exact List.mem_flatMap.2 ⟨x, hx, h⟩
        simp [this]
      · have := csz_mem hx; omega
      · have : b ∈ blC s.cases := by rw [blC_map]; exact List.mem_flatMap.2 ⟨x, hx, h⟩
        simp [this]
    · obtain ⟨h1, h2, h3⟩ := Ca.cp_iff.1 h
      have := c.sz_eq
      rw [c.bl_eq] at hb
      refine Ca.cp_iff.2 ⟨h1, h2.keep (hb _ (List.mem_cons_self ..)), fun x hx => ih.1 x ?_ (h3 x hx) fun b h => hb b (List.mem_cons_of_mem _ ?_)⟩
      · have := ssz_mem hx; omega
      · rw [blS_map]; exact List.mem_flatMap.2 ⟨x, hx, h⟩
theorem St.Cp.kept {W W' : World} {s : St} (h : s.Cp W) (hb : ∀ b ∈ s.bl, W'.heap[b]? = W.heap[b]?) : s.Cp W' := (cp_keep _).1 s (Nat.le_refl _) h hb
theorem Ca.Cp.kept {W W' : World} {c : Ca} (h : c.Cp W) (hb : ∀ b ∈ c.bl, W'.heap[b]? = W.heap[b]?) : c.Cp W' := (cp_keep _).2 c (Nat.le_refl _) h hb
end Go.Proofs.YtkkcgkpbbngloaaDoor

/- Two faults held against each other; blocks that stay. -/
namespace Go.Proofs.YtkkcgkpbbngloaaDoor
open Go.RowKit Go.Sort

theorem equalIn_flt (a b c a' b' c' : Int) (w : World) : (Op.equalIn 10000 29 (fltV a b c) (fltV a' b' c')).run Tryd.prog w = .ok (a == a' && (b == b' && c == c')) w := by
  have u3 := Tryd.underlying3
  have a3 := Tryd.isAgg3
  have z3 := Tryd.sizeOf3
  have u31 := Tryd.underlying27
  have a31 := Tryd.isAgg27
  have z31 := Tryd.sizeOf27
  have hS : Tryd.prog.underlying 29 = some (.struct (Tryd.prog.fieldsOf 29)) := by kernel_rfl
  have hp : Tryd.prog.stoodInHeld 29 = false := by kernel_rfl
  unfold fltV
  rw [show (10000 : Nat) = 9999 + 1 from rfl, run_equalIn_agg w 9999 29 _ _ hS hp]
  simp only [Program.fieldsOf, Tryd.underlying29]
  go_simp
  by_cases h1 : a = a' <;> by_cases h2 : b = b' <;> by_cases h3 : c = c' <;> simp [h1, h2, h3]

theorem keep_heap {W : World} {k : Nat} {o : Obj} (h : W.heap[k]? = some o) (o' : Obj) : (W.alloc o').heap[k]? = some o := (Lib.alloc_old W o' k (Array.getElem?_eq_some_iff.1 h).1).trans h
theorem new_heap {W : World} {k : Nat} (o : Obj) (h : W.heap.size = k) : (W.alloc o).heap[k]? = some o := by rw [← h]; exact heap_alloc_new W o
theorem eqGuard_flt (w : World) (op : BinOp) (a b : Operand) (xs ys : Array Value) : (eqGuard op 29 a b (.agg xs) (.agg ys)).run Tryd.prog w = .ok () w := run_eqGuard_agg w op 29 a b xs ys (by kernel_rfl)
theorem Below.on {A B C : World} (h : Below A.heap.size A B) (k : Below B.heap.size B C) : Below A.heap.size A C := h.trans (k.mono h.size)
theorem Below.one {A B : World} (h : Below A.heap.size A B) (o : Obj) : Below A.heap.size A (B.alloc o) := h.alloc h.size o
/-- Of a world W0 that is behind: what its blocks hold is told in every world behind it. -/
theorem seen {W0 : World} {p : Addr} {v : Value} (h : W0.cell? p = some v) : ∀ w', Below W0.heap.size W0 w' → w'.cell? p = some v := fun _ hb => (hb.cell (lt_of_cell h)).trans h
end Go.Proofs.YtkkcgkpbbngloaaDoor

/- The document's own copies: expressions. -/
namespace Go.Proofs.YtkkcgkpbbngloaaDoor
open Go.RowKit

theorem Tryd.infoEx : (Tryd.prog.info? 41).map (fun i => (i.zero, i.size, i.bytes)) = some (some (.agg #[.int .i64 0, .int .i64 0, .string ⟨#[]⟩, .slice none 0 0]), 4, 56) := by kernel_rfl

/- No list has more than 2^20 elements. -/
mutual
def Ex.Few : Ex → Prop | .mk _ _ _ _ _ l => l.length ≤ 1048576 ∧ FewL l
def FewL : List Ex → Prop | [] => True | x :: r => x.Few ∧ FewL r
end
theorem fewL_mem {l : List Ex} : FewL l ↔ ∀ x ∈ l, x.Few := by induction l <;> simp_all [FewL]
theorem Ex.few_iff {x : Ex} : x.Few ↔ x.args.length ≤ 1048576 ∧ ∀ y ∈ x.args, y.Few := by cases x; simp only [Ex.Few, Ex.args, fewL_mem]

theorem owns_heap {W W' : World} {base : Nat} {e : TypeId} {sz G n cap : Nat} {xs : List Value} (h : W.ownsRow base e sz (.slice (some ⟨G, 0, none⟩) n cap) n xs) (hk : W'.heap[G]? = W.heap[G]?) : W'.ownsRow base e sz (.slice (some ⟨G, 0, none⟩) n cap) n xs := by
  refine ⟨h.1, ?_⟩
  rcases h.2 with h | ⟨g, cap, cur, h1, h2, h3, h4⟩
  · exact .inl h
  · cases h1
    exact .inr ⟨_, _, cur, rfl, h2, hk.trans h3, h4⟩
theorem owns_lt {W : World} {base : Nat} {e : TypeId} {sz G n cap : Nat} {xs : List Value} (h : W.ownsRow base e sz (.slice (some ⟨G, 0, none⟩) n cap) n xs) : G < W.heap.size := by
  rcases h.2 with ⟨h, _⟩ | ⟨g, cap, cur, h1, h2, h3, _⟩
  · cases h
  · cases h1; exact (Array.getElem?_eq_some_iff.1 h3).1
/-- A row that is full is its block. -/
theorem owns_full {W : World} {base : Nat} {e : TypeId} {sz G n : Nat} {xs : List Value} (h : W.ownsRow base e sz (.slice (some ⟨G, 0, none⟩) n n) n xs) : W.heap[G]? = some (.cells ⟨xs⟩ e (0, 0)) := by
  rcases h.2 with ⟨h, _⟩ | ⟨g, cap, cur, h1, h2, h3, h4, h5, h6, h7⟩
  · cases h
  · cases h1
    rw [h3]
    congr 2
    rw [← h7, List.take_of_length_le (by rw [Array.length_toList, h6]; exact Nat.le_refl _)]
theorem set_cell {W : World} {b : Nat} {cs : Array Value} {T : TypeId} {fz : Nat × Nat} (h : W.heap[b]? = some (.cells cs T fz)) (i : Nat) (v : Value) : (W.setCell ⟨b, i, none⟩ v).heap[b]? = some (.cells (cs.setIfInBounds i v) T fz) := by
  simp [World.setCell, Array.getElem?_modify, h]
theorem erL_len {l t : List Ex} (h : erL l = erL t) : l.length = t.length := by
  have := congrArg List.length h
  simpa [erL_map] using this

/-- What comes of a list of expressions. -/
def CpR (w w' : World) (l : List Ex) (e : Ending) : Prop := ∃ (g : Nat) (l' : List Ex), e = .returned (.slice (some ⟨g, 0, none⟩) l.length (l.length + 1)) ∧ RowCp w' (some ⟨g, 0, none⟩) (l.length + 1) l'.length 56 41 (l'.flatMap Ex.cells ++ senE) ∧ (∀ x ∈ l', x.Cp w') ∧ erL l' = erL l ∧ (g :: blL l').Nodup ∧ (∀ b ∈ g :: blL l', w.heap.size ≤ b ∧ b < w'.heap.size)

set_option maxRecDepth 100000 in
set_option maxHeartbeats 8000000 in
theorem exprsOf_step (n : Nat) (ih : ∀ (l : List Ex) (a : Option Addr) (c : Nat) (w : World), szL l < n → HaveE w a c l → l.length ≤ 1048576 → (∀ x ∈ l, x.Few) → Calls Tryd.prog 35 #[.slice a l.length c] w fun e w' => CpR w w' l e ∧ Below w.heap.size w w')
    (l : List Ex) (a : Option Addr) (c : Nat) (w : World) (hk : szL l ≤ n) (hin : HaveE w a c l) (hf0 : l.length ≤ 1048576) (hf : ∀ x ∈ l, x.Few) :
    Calls Tryd.prog 35 #[.slice a l.length c] w fun e w' => CpR w w' l e ∧ Below w.heap.size w w' := by
  obtain ⟨i0, hi, hz0, hz1, hz2⟩ := info_parts Tryd.infoEx
  have HI : Hid (Tryd.prog.info? 41 = some i0) := hi
  have IH : Hid (∀ (l : List Ex) (a : Option Addr) (c : Nat) (w : World), szL l < n → HaveE w a c l → l.length ≤ 1048576 → (∀ x ∈ l, x.Few) → Calls Tryd.prog 35 #[.slice a l.length c] w fun e w' => CpR w w' l e ∧ Below w.heap.size w w') := ih
  have HA : Hid (HaveE w a c l) := hin
  have hl := hin.1
  have hc := hin.2.1
  have HK : Hid (szL l ≤ n) := hk
  have HF : Hid (∀ x ∈ l, x.Few) := hf
  clear ih hin hk hf hi
  go_enter Tryd.func35, Tryd.ntmps35
  go_wp2_with (at_make; refine wpList_make_own _ rfl _ _ 39 rfl w.heap.size 41 i0 _ 4 Tryd.underlying39 HI.out hz0 hz1 _ _ _ (l.length + 1) rfl rfl (by omega) (by rw [hz2]; omega) (by unfold maxLen; omega) (Nat.le_refl _) ?_; intro w0 hown0 hgrow0)
  obtain ⟨G, hG⟩ : ∃ G, w.heap.size = G := ⟨_, rfl⟩
  have hb0 : Below w.heap.size w w0 := (Below.refl _ w).grown hgrow0 (Nat.le_refl _) (fun k hk => by cases hk)
  have HO0 : Hid (w0.ownsRow w.heap.size 41 4 (.slice (some ⟨w.heap.size, 0, none⟩) 0 (l.length + 1)) 0 []) := hown0
  clear hown0 hgrow0
  rw [hG] at hb0 HO0 ⊢
  have HG : Hid (w.heap.size = G) := hG
  clear hG
  go_wp2_with fail
  go_loopw [3, 4] (fun t3 t4 wr => ∃ (l' : List Ex), t4 = .int .i64 l'.length ∧ l'.length ≤ l.length ∧ t3 = .slice (some ⟨G, 0, none⟩) l'.length (l.length + 1) ∧ wr.ownsRow G 41 4 (.slice (some ⟨G, 0, none⟩) l'.length (l.length + 1)) l'.length (l'.flatMap Ex.cells) ∧ (∀ x ∈ l', x.Cp wr) ∧ erL l' = erL (l.take l'.length) ∧ (blL l').Nodup ∧ (∀ b ∈ blL l', G < b ∧ b < wr.heap.size) ∧ Below G w wr) (fun _ t4 _ => l.length - (intOf t4).toNat)
  case atStart => exact ⟨[], rfl, Nat.zero_le _, rfl, HO0.out, by simp, by simp, by simp [blL], by simp [blL], hb0⟩
  case round =>
    clear HO0 hb0
    obtain ⟨l', rfl, hle, rfl, hown, hcp, her, hnd, hbd, hb⟩ := hrel
    obtain ⟨j, hj⟩ : ∃ j, l'.length = j := ⟨_, rfl⟩
    have HJ : Hid (l'.length = j) := hj
    rw [hj] at hown hle her ⊢
    have HO : Hid (wr.ownsRow G 41 4 (.slice (some ⟨G, 0, none⟩) j (l.length + 1)) j (l'.flatMap Ex.cells)) := hown
    have HR : Hid ((∀ x ∈ l', x.Cp wr) ∧ erL l' = erL (l.take j) ∧ (blL l').Nodup ∧ (∀ b ∈ blL l', G < b ∧ b < wr.heap.size)) := ⟨hcp, her, hnd, hbd⟩
    have BW : Hid (Below G w wr) := hb
    clear hown hcp her hnd hbd hb hj
    by_cases hlt : j < l.length
    · have hli : (j : Int) < (l.length : Int) := by omega
      have hbw : Below w.heap.size w wr := HG.out ▸ BW.out
      obtain ⟨b, o, rfl, c0, c1, c2, c3⟩ := row_at (HA.out.2.2.1.below hbw) hlt
      have XI : Hid (∀ w', Below w.heap.size w w' → l[j].In w') := fun w' h => (HA.out.2.2.2 l[j] (List.getElem_mem hlt)).stay h
      have XF : Hid (l[j].Few) := HF.out _ (List.getElem_mem hlt)
      have HZ : Hid (szL l[j].args < n) := by
        have h1 := szL_mem (List.getElem_mem hlt)
        have h2 := (l[j]).sz_args
        have h3 := HK.out
        show _ < _
        omega
      have HT : Hid (erL (l.take (j + 1)) = erL (l.take j) ++ [l[j].er]) := by
        show _ = _
        rw [erL_map, erL_map, List.take_succ_eq_append_getElem hlt, List.map_append]; rfl
      generalize l[j] = x at *
      have HQ : Hid (∀ w', Below wr.heap.size wr w' → Calls Tryd.prog 35 #[.slice x.a x.args.length x.cap] w' fun e w'' => CpR w' w'' x.args e ∧ Below w'.heap.size w' w'') := fun w' h => IH.out x.args x.a x.cap w' HZ.out (XI.out _ (Below.on hbw h)).have (Ex.few_iff.1 XF.out).1 (Ex.few_iff.1 XF.out).2
      go_wp2_with fail
      refine (HQ.out _ (Below.one (Below.refl _ _) _)).mono ?_
      rintro e w2 ⟨⟨g', l'', rfl, hrow, hcp2, her2, hnd2, hbd2⟩, hb2⟩
      clear c0 c1 c2 c3
      obtain ⟨X, hX⟩ : ∃ X, wr.heap.size = X := ⟨_, rfl⟩
      have h2X : w2.heap[X]? = some (.cells #[.int .i64 x.kind, .int .i64 x.n, .string x.name, .slice x.a x.args.length x.cap] 41 (0, 0)) := by
        rw [← hX, hb2.block _ (by simp)]; exact heap_alloc_new _ _
      have k0 : w2.cell? ⟨X, 0, none⟩ = some (.int .i64 x.kind) := by rw [Lib.cell_of_heap h2X]; rfl
      have k1 : w2.cell? ⟨X, 1, none⟩ = some (.int .i64 x.n) := by rw [Lib.cell_of_heap h2X]; rfl
      have k2 : w2.cell? ⟨X, 2, none⟩ = some (.string x.name) := by rw [Lib.cell_of_heap h2X]; rfl
      have k3 : w2.cell? ⟨X, 3, none⟩ = some (.slice x.a x.args.length x.cap) := by rw [Lib.cell_of_heap h2X]; rfl
      have kf : w2.frozen? ⟨X, 3, none⟩ = false := by simp [World.frozen?, h2X]
      have hs2 : X < w2.heap.size := (Array.getElem?_eq_some_iff.1 h2X).1
      rw [hX]
      have HX : Hid (wr.heap.size = X ∧ X < w2.heap.size) := ⟨hX, hs2⟩
      have hsw : ((wr.alloc (.cells #[.int .i64 x.kind, .int .i64 x.n, .string x.name, .slice x.a x.args.length x.cap] 41))).heap.size = X + 1 := by rw [World.size_alloc, hX]
      rw [hsw] at hbd2
      have HB2 : Hid (∀ k, k < X → w2.heap[k]? = wr.heap[k]?) := fun k hk => (hb2.block k (by rw [hsw]; omega)).trans (Below.heap_alloc _ _ _ (by omega))
      have BW2 : Hid (Below G w w2) := by
        have : Below w.heap.size w w2 := Below.on (Below.one hbw _) hb2
        exact HG.out ▸ this
      have hGX : G < X := by
        have := owns_lt HO.out
        omega
      have HGX : Hid (G < X) := hGX
      have H2 : Hid (RowCp w2 (some ⟨g', 0, none⟩) (x.args.length + 1) l''.length 56 41 (l''.flatMap Ex.cells ++ senE) ∧ (∀ x ∈ l'', x.Cp w2) ∧ erL l'' = erL x.args ∧ (g' :: blL l'').Nodup ∧ (∀ b ∈ g' :: blL l'', X + 1 ≤ b ∧ b < w2.heap.size)) := ⟨hrow, hcp2, her2, hnd2, hbd2⟩
      have HO4 : Hid (((w2.setCell ⟨X, 3, none⟩ (.slice (some ⟨g', 0, none⟩) x.args.length (x.args.length + 1))).alloc (.cells #[.int .i64 x.kind, .int .i64 x.n, .string x.name, .slice (some ⟨g', 0, none⟩) x.args.length (x.args.length + 1)] 41)).ownsRow G 41 4 (.slice (some ⟨G, 0, none⟩) j (l.length + 1)) j (l'.flatMap Ex.cells)) :=
        owns_heap HO.out (by rw [Below.heap_alloc _ _ _ (by simp [World.setCell]; omega), Below.heap_setCell _ _ _ _ (by show G ≠ X; omega), HB2.out _ hGX])
      have HN : Hid (∀ i u, ([.int .i64 x.kind, .int .i64 x.n, .string x.name, .slice (some ⟨g', 0, none⟩) x.args.length (x.args.length + 1)] : List Value)[i]? = some u → ((w2.setCell ⟨X, 3, none⟩ (.slice (some ⟨g', 0, none⟩) x.args.length (x.args.length + 1))).alloc (.cells #[.int .i64 x.kind, .int .i64 x.n, .string x.name, .slice (some ⟨g', 0, none⟩) x.args.length (x.args.length + 1)] 41)).cell? ((⟨w2.heap.size, 0, none⟩ : Addr).add i) = some u) := by
        have := heap_alloc_new (w2.setCell ⟨X, 3, none⟩ (.slice (some ⟨g', 0, none⟩) x.args.length (x.args.length + 1))) (.cells #[.int .i64 x.kind, .int .i64 x.n, .string x.name, .slice (some ⟨g', 0, none⟩) x.args.length (x.args.length + 1)] 41)
        rw [show (w2.setCell ⟨X, 3, none⟩ (.slice (some ⟨g', 0, none⟩) x.args.length (x.args.length + 1))).heap.size = w2.heap.size by simp [World.setCell]] at this
        exact World.news_of_block this
      have H1 : Hid (∀ u ∈ ([.int .i64 x.kind, .int .i64 x.n, .string x.name, .slice (some ⟨g', 0, none⟩) x.args.length (x.args.length + 1)] : List Value), u.oneCell' = true) := fun u hu => by
        simp at hu; rcases hu with rfl | rfl | rfl | rfl <;> rfl
      clear hrow hcp2 her2 hnd2 hbd2 hsw hb2 hX hs2 hGX h2X
      go_wp2_with (at_builtin; refine wpList_append_own_spare _ rfl _ _ 39 rfl G 41 i0 4 Tryd.underlying39 HI.out hz1 G j (l.length + 1) (l'.flatMap Ex.cells) rfl HO4.out ⟨w2.heap.size, 0, none⟩ 1 1 [.int .i64 x.kind, .int .i64 x.n, .string x.name, .slice (some ⟨g', 0, none⟩) x.args.length (x.args.length + 1)] rfl rfl HN.out H1.out (by omega) ?_; intro w5 hown5 hgrow5)
      have HO5 : Hid (w5.ownsRow G 41 4 (.slice (some ⟨G, 0, none⟩) (j + 1) (l.length + 1)) (j + 1) (l'.flatMap Ex.cells ++ [.int .i64 x.kind, .int .i64 x.n, .string x.name, .slice (some ⟨g', 0, none⟩) x.args.length (x.args.length + 1)])) := hown5
      have HK5 : Hid (∀ k, k < w2.heap.size → k ≠ X → k ≠ G → w5.heap[k]? = w2.heap[k]?) := fun k h1 h2 h3 => by
        rw [hgrow5.block k (by simp [World.setCell]; omega) (by simpa using h3), Below.heap_alloc _ _ _ (by simpa [World.setCell] using h1), Below.heap_setCell _ _ _ _ h2]
      have HS5 : Hid (w2.heap.size < w5.heap.size) := by
        have := hgrow5.size
        simp [World.setCell] at this
        show _ < _
        omega
      have BW5 : Hid (Below G w w5) := by
        have h1 := HGX.out
        have h2 := HX.out
        exact ((BW2.out.setCell (p := ⟨X, 3, none⟩) (by show G ≤ X; omega) _).alloc (by simp [World.setCell]; omega) _).grown hgrow5 (by simp [World.setCell]; omega) (fun k hk => by simp at hk; omega)
      clear hown5 hgrow5 HO4 HN H1 k0 k1 k2 k3 kf
      go_wp2_with fail
      go_roundw
      case rel =>
        obtain ⟨hrow, hcp2, her2, hnd2, hbd2⟩ := H2.out
        obtain ⟨hcp, her, hnd, hbd⟩ := HR.out
        have hx := HX.out
        have hgx := HGX.out
        have hs5 := HS5.out
        have hlen : l''.length = x.args.length := erL_len her2
        have hbl : blL (l' ++ [.mk x.kind x.n x.name (some ⟨g', 0, none⟩) (x.args.length + 1) l'']) = blL l' ++ (g' :: blL l'') := by
          rw [blL_map, List.flatMap_append, ← blL_map]; simp [Ex.bl, blk]
        have hkeep : ∀ b ∈ g' :: blL l'', w5.heap[b]? = w2.heap[b]? := fun b hb => HK5.out b (hbd2 b hb).2 (by have := (hbd2 b hb).1; omega) (by have := (hbd2 b hb).1; omega)
        have hxin := Ex.in_iff.1 (XI.out _ (Below.refl _ _))
        refine ⟨l' ++ [.mk x.kind x.n x.name (some ⟨g', 0, none⟩) (x.args.length + 1) l''], ?_, ?_, ?_, ?_, ?_, ?_, ?_, ?_, BW5.out⟩
        · have := HJ.out; simp; omega
        · have := HJ.out; simp; omega
        · have := HJ.out; simp; omega
        · have h5 := HO5.out
          rw [show (l' ++ [Ex.mk x.kind x.n x.name (some ⟨g', 0, none⟩) (x.args.length + 1) l'']).length = j + 1 by have := HJ.out; simp; omega, List.flatMap_append]
          simpa [Ex.cells, Ex.kind, Ex.n, Ex.name, Ex.a, Ex.cap, Ex.args, hlen] using h5
        · intro y hy
          rcases List.mem_append.1 hy with hy | hy
          · refine (hcp y hy).kept fun b hb => ?_
            have hb' := hbd b (by rw [blL_map]; exact List.mem_flatMap.2 ⟨y, hy, hb⟩)
            rw [HK5.out b (by omega) (by omega) (by omega), HB2.out b (by omega)]
          · obtain rfl := List.mem_singleton.1 hy
            refine Ex.cp_iff.2 ⟨hxin.1, hxin.2.1, hxin.2.2.1, ?_, fun z hz => (hcp2 z hz).kept fun b hb => hkeep b (List.mem_cons_of_mem _ (by rw [blL_map]; exact List.mem_flatMap.2 ⟨z, hz, hb⟩))⟩
            exact hrow.keep (hkeep _ (List.mem_cons_self ..))
        · have hj := HJ.out
          rw [show (l' ++ [Ex.mk x.kind x.n x.name (some ⟨g', 0, none⟩) (x.args.length + 1) l'']).length = j + 1 by simp; omega, HT.out, ← her, erL_map, erL_map, List.map_append]
          simp only [List.map_cons, List.map_nil, Ex.er]
          rw [x.er_eq, her2]
        · rw [hbl, List.nodup_append]
          refine ⟨hnd, hnd2, fun a ha b hb => ?_⟩
          have := hbd a ha
          have := hbd2 b hb
          omega
        · intro b hb
          rw [hbl] at hb
          rcases List.mem_append.1 hb with hb | hb
          · have := hbd b hb; omega
          · have := hbd2 b hb; omega
      case measure => simp [intOf]; omega
    · obtain rfl : j = l.length := by omega
      have HO4 : Hid ((wr.alloc (.cells #[.int .i64 (-77), .int .i64 0, .string ⟨#[]⟩, .slice none 0 0] 41)).ownsRow G 41 4 (.slice (some ⟨G, 0, none⟩) l.length (l.length + 1)) l.length (l'.flatMap Ex.cells)) := HO.out.alloc _
      have HN : Hid (∀ i u, senE[i]? = some u → (wr.alloc (.cells #[.int .i64 (-77), .int .i64 0, .string ⟨#[]⟩, .slice none 0 0] 41)).cell? ((⟨wr.heap.size, 0, none⟩ : Addr).add i) = some u) := World.news_of_block (heap_alloc_new wr _)
      have H1 : Hid (∀ u ∈ senE, u.oneCell' = true) := fun u hu => by
        simp [senE] at hu; rcases hu with rfl | rfl | rfl | rfl <;> rfl
      go_wp2_with (at_builtin; refine wpList_append_own_spare _ rfl _ _ 39 rfl G 41 i0 4 Tryd.underlying39 HI.out hz1 G l.length (l.length + 1) (l'.flatMap Ex.cells) rfl HO4.out ⟨wr.heap.size, 0, none⟩ 1 1 senE rfl rfl HN.out H1.out (by omega) ?_; intro w5 hown5 hgrow5)
      have HO5 : Hid (w5.ownsRow G 41 4 (.slice (some ⟨G, 0, none⟩) (l.length + 1) (l.length + 1)) (l.length + 1) (l'.flatMap Ex.cells ++ senE)) := hown5
      have hGX : G < wr.heap.size := by
        exact owns_lt HO.out
      have HK5 : Hid (G < wr.heap.size ∧ wr.heap.size < w5.heap.size ∧ ∀ k, k < wr.heap.size → k ≠ G → w5.heap[k]? = wr.heap[k]?) := by
        refine ⟨hGX, by have := hgrow5.size; simp at this; omega, fun k h1 h3 => ?_⟩
        rw [hgrow5.block k (by simp; omega) (by simpa using h3), Below.heap_alloc _ _ _ h1]
      have BW5 : Hid (Below G w w5) := (BW.out.alloc (by omega) _).grown hgrow5 (by simp; omega) (fun k hk => by simp at hk; omega)
      clear hown5 hgrow5 HO4 HN H1 hGX
      go_wp2_with fail
      go_ret
      obtain ⟨hcp, her, hnd, hbd⟩ := HR.out
      obtain ⟨hgx, hs5, hk5⟩ := HK5.out
      have hw : w.heap.size = G := HG.out
      refine ⟨⟨G, l', rfl, ⟨G, rfl, by rw [HJ.out], by omega, owns_full HO5.out⟩, fun y hy => (hcp y hy).kept fun b hb => ?_, by rw [her, List.take_length], ?_, ?_⟩, by rw [hw]; exact BW5.out⟩
      · have := hbd b (by rw [blL_map]; exact List.mem_flatMap.2 ⟨y, hy, hb⟩)
        exact hk5 b this.2 (by omega)
      · refine List.nodup_cons.2 ⟨fun h => ?_, hnd⟩
        have := hbd _ h; omega
      · intro b hb
        rcases List.mem_cons.1 hb with rfl | hb
        · omega
        · have := hbd b hb; omega
theorem exprsOf_k (n : Nat) : ∀ (l : List Ex) (a : Option Addr) (c : Nat) (w : World), szL l < n → HaveE w a c l → l.length ≤ 1048576 → (∀ x ∈ l, x.Few) → Calls Tryd.prog 35 #[.slice a l.length c] w fun e w' => CpR w w' l e ∧ Below w.heap.size w w' := by
  induction n with
  | zero => intro l a c w h; omega
  | succ n ih => exact fun l a c w h => exprsOf_step n ih l a c w (by omega)
theorem exprsOf_any (l : List Ex) (a : Option Addr) (c : Nat) (w : World) (hin : HaveE w a c l) (hf0 : l.length ≤ 1048576) (hf : ∀ x ∈ l, x.Few) : Calls Tryd.prog 35 #[.slice a l.length c] w fun e w' => CpR w w' l e ∧ Below w.heap.size w w' := exprsOf_k (szL l + 1) l a c w (by omega) hin hf0 hf
end Go.Proofs.YtkkcgkpbbngloaaDoor

/- The document's own answer whether two lists of expressions are the same. -/
namespace Go.Proofs.YtkkcgkpbbngloaaDoor
open Go.RowKit Go.Sort

set_option maxRecDepth 100000 in
set_option maxHeartbeats 8000000 in
theorem rsamE_step (k : Nat) (ih : ∀ (l t : List Ex) (a a' : Option Addr) (c c' : Nat) (w : World), szL l ≤ k → HaveE w a c l → HaveE w a' c' t →
      Calls Tryd.prog 40 #[.slice a l.length c, .slice a' t.length c'] w fun e w' => e = .returned (.bool (samEs l t)) ∧ Below w.heap.size w w')
    (l t : List Ex) (a a' : Option Addr) (c c' : Nat) (w : World) (hk : szL l ≤ k + 1) (hin : HaveE w a c l) (hin' : HaveE w a' c' t) :
    Calls Tryd.prog 40 #[.slice a l.length c, .slice a' t.length c'] w fun e w' => e = .returned (.bool (samEs l t)) ∧ Below w.heap.size w w' := by
  have IH : Hid (∀ (l t : List Ex) (a a' : Option Addr) (c c' : Nat) (w : World), szL l ≤ k → HaveE w a c l → HaveE w a' c' t →
      Calls Tryd.prog 40 #[.slice a l.length c, .slice a' t.length c'] w fun e w' => e = .returned (.bool (samEs l t)) ∧ Below w.heap.size w w') := ih
  have HA : Hid (HaveE w a c l) := hin
  have HB : Hid (HaveE w a' c' t) := hin'
  have hl := hin.1
  have hc := hin.2.1
  have hl' := hin'.1
  have hc' := hin'.2.1
  have HK : Hid (szL l ≤ k + 1) := hk
  clear ih hin hin' hk
  by_cases hle : l.length = t.length
  · have HL : Hid (l.length = t.length) := hle
    rw [← hle] at hl' ⊢
    clear hle
    go_enter Tryd.func40, Tryd.ntmps40
    go_wp2_with fail
    go_loopw [5] (fun t5 wr => ∃ (j : Nat), j ≤ l.length ∧ t5 = .int .i64 j ∧ samEs (l.drop j) (t.drop j) = samEs l t ∧ Below w.heap.size w wr) (fun t5 _ => l.length - (intOf t5).toNat)
    case atStart => exact ⟨0, Nat.zero_le _, rfl, rfl, Below.refl _ w⟩
    case round =>
      obtain ⟨j, hj, rfl, hcnt, hb⟩ := hrel
      have HC : Hid (samEs (l.drop j) (t.drop j) = samEs l t) := hcnt
      clear hcnt
      have hws := hb.size
      by_cases hlt : j < l.length
      · have hlt' : j < t.length := by have := HL.out; omega
        obtain ⟨b, o, rfl, k0, k1, k2, k3⟩ := row_at (HA.out.2.2.1.below hb) hlt
        obtain ⟨b', o', rfl, m0, m1, m2, m3⟩ := row_at (HB.out.2.2.1.below hb) hlt'
        have hli : (j : Int) < (l.length : Int) := by omega
        have HQ : Hid (∀ w', Below wr.heap.size wr w' → Calls Tryd.prog 40 #[.slice l[j].a l[j].args.length l[j].cap, .slice t[j].a t[j].args.length t[j].cap] w' fun e w'' => e = .returned (.bool (samEs l[j].args t[j].args)) ∧ Below w'.heap.size w' w'') := fun w' h => by
          have hbw : Below w.heap.size w w' := hb.trans (h.mono hws)
          have h1 := szL_mem (List.getElem_mem hlt)
          have h2 := (l[j]).sz_args
          have h3 := HK.out
          exact IH.out _ _ _ _ _ _ w' (by omega) ((HA.out.2.2.2 l[j] (List.getElem_mem hlt)).stay hbw).have ((HB.out.2.2.2 t[j] (List.getElem_mem hlt')).stay hbw).have
        have HD : Hid (samEs (l.drop j) (t.drop j) = ((l[j].kind == t[j].kind && (l[j].n == t[j].n && (l[j].name.toList == t[j].name.toList && samEs l[j].args t[j].args))) && samEs (l.drop (j + 1)) (t.drop (j + 1)))) := by
          show _ = _; rw [samEs_drop hlt hlt', samE_eq]
        generalize l[j] = x at *
        generalize t[j] = y at *
        generalize samEs x.args y.args = sub at *
        have c0 := cell_regrown k0
        have d0 := cell_regrown m0
        have c1 := cell_regrown k1
        have d1 := cell_regrown m1
        have c2 := cell_regrown k2
        have d2 := cell_regrown m2
        have c3 := cell_regrown k3
        have d3 := cell_regrown m3
        clear k0 k1 k2 k3 m0 m1 m2 m3 hlt'
        have hu : undef = Value.tuple #[] := rfl
        cases e1 : (x.kind == y.kind)
        · have e1' : (x.kind != y.kind) = true := by simp [bne, e1]
          rw [e1] at HD
          go_wp2_with fail
          refine wp_region_quiet_below (by kernel_rfl) (by kernel_rfl) ?_
          repeat (go_big_quiet_step (fail))
          refine wpQuiet_nil ?_
          intro _ hw'
          obtain ⟨⟨dq, osq⟩, hw''⟩ := hw'
          subst hw''
          have hbq := below_regrown wr dq osq
          clear c0 c1 c2 c3 d0 d1 d2 d3
          go_wp2_with fail
          go_ret
          exact ⟨ret_bool (by rw [← HC.out, HD.out]; rfl), hb.trans (hbq.mono hws)⟩
        · have e1' : (x.kind != y.kind) = false := by simp [bne, e1]
          rw [e1] at HD
          cases e2 : (x.n == y.n)
          · have e2' : (x.n != y.n) = true := by simp [bne, e2]
            rw [e2] at HD
            go_wp2_with fail
            refine wp_region_quiet_below (by kernel_rfl) (by kernel_rfl) ?_
            repeat (go_big_quiet_step (fail))
            refine wpQuiet_nil ?_
            intro _ hw'
            obtain ⟨⟨dq, osq⟩, hw''⟩ := hw'
            subst hw''
            have hbq := below_regrown wr dq osq
            clear c0 c1 c2 c3 d0 d1 d2 d3
            go_wp2_with fail
            go_ret
            exact ⟨ret_bool (by rw [← HC.out, HD.out]; rfl), hb.trans (hbq.mono hws)⟩
          · have e2' : (x.n != y.n) = false := by simp [bne, e2]
            rw [e2] at HD
            cases e3 : (x.name.toList == y.name.toList)
            · have e3' : (x.name.toList != y.name.toList) = true := by simp [bne, e3]
              rw [e3] at HD
              go_wp2_with fail
              refine wp_region_quiet_below (by kernel_rfl) (by kernel_rfl) ?_
              repeat (go_big_quiet_step (fail))
              refine wpQuiet_nil ?_
              intro _ hw'
              obtain ⟨⟨dq, osq⟩, hw''⟩ := hw'
              subst hw''
              have hbq := below_regrown wr dq osq
              clear c0 c1 c2 c3 d0 d1 d2 d3
              go_wp2_with fail
              go_ret
              exact ⟨ret_bool (by rw [← HC.out, HD.out]; rfl), hb.trans (hbq.mono hws)⟩
            · have e3' : (x.name.toList != y.name.toList) = false := by simp [bne, e3]
              rw [e3] at HD
              go_wp2_with fail
              refine wp_region_quiet_below (by kernel_rfl) (by kernel_rfl) ?_
              repeat (go_big_quiet_step ((go_at_call 40; exact Calls.regrown_of (HQ.out _ (below_regrown _ _ _)))))
              refine wpQuiet_nil ?_
              intro _ hw'
              obtain ⟨⟨dq, osq⟩, hw''⟩ := hw'
              subst hw''
              have hbq := below_regrown wr dq osq
              clear c0 c1 c2 c3 d0 d1 d2 d3
              generalize grow (redrawn wr dq) osq = W3 at *
              cases sub
              · go_wp2_with fail
                go_ret
                exact ⟨ret_bool (by rw [← HC.out, HD.out]; rfl), hb.trans (hbq.mono hws)⟩
              · go_wp2_with fail
                go_roundw
                case rel => exact ⟨j + 1, by omega, by go_num, by rw [← HC.out, HD.out]; rfl, hb.trans (hbq.mono hws)⟩
                case measure => simp [intOf]; omega
      · go_wp2_with fail
        go_ret
        refine ⟨ret_bool ?_, hb⟩
        rw [← HC.out, List.drop_eq_nil_of_le (by omega), List.drop_eq_nil_of_le (by have := HL.out; omega)]; simp [samEs]
  · have hne : ((l.length : Int) != (t.length : Int)) = true := by simp only [bne_iff_ne]; omega
    go_enter Tryd.func40, Tryd.ntmps40
    go_wp2_with fail
    go_ret
    exact ⟨ret_bool (by rw [samEs_len hle]), Below.refl _ w⟩

set_option maxRecDepth 100000 in
set_option maxHeartbeats 2000000 in
theorem rsamE_nil (t : List Ex) (a a' : Option Addr) (c c' : Nat) (w : World) (hin : HaveE w a c []) (hin' : HaveE w a' c' t) :
    Calls Tryd.prog 40 #[.slice a ([] : List Ex).length c, .slice a' t.length c'] w fun e w' => e = .returned (.bool (samEs [] t)) ∧ Below w.heap.size w w' := by
  have hc := hin.2.1
  have hl' := hin'.1
  have hc' := hin'.2.1
  clear hin hin'
  show Calls Tryd.prog 40 #[.slice a 0 c, .slice a' t.length c'] w _
  cases t with
  | nil =>
    show Calls Tryd.prog 40 #[.slice a 0 c, .slice a' 0 c'] w _
    go_enter Tryd.func40, Tryd.ntmps40
    go_wp2_with fail
    go_loopw [5] (fun t5 wr => t5 = .int .i64 0 ∧ wr = w) (fun _ _ => 0)
    case atStart => exact ⟨rfl, rfl⟩
    case round =>
      obtain ⟨rfl, rfl⟩ := hrel
      go_wp2_with fail
      go_ret
      exact ⟨ret_bool (by simp [samEs]), Below.refl _ _⟩
  | cons y t =>
    have hne : ((0 : Int) != ((y :: t).length : Int)) = true := by simp only [bne_iff_ne, List.length_cons]; omega
    generalize hlen : (y :: t).length = n at *
    clear hlen
    go_enter Tryd.func40, Tryd.ntmps40
    go_wp2_with fail
    go_ret
    exact ⟨ret_bool (by simp [samEs]), Below.refl _ w⟩

theorem rsamE_k (k : Nat) : ∀ (l t : List Ex) (a a' : Option Addr) (c c' : Nat) (w : World), szL l ≤ k → HaveE w a c l → HaveE w a' c' t →
    Calls Tryd.prog 40 #[.slice a l.length c, .slice a' t.length c'] w fun e w' => e = .returned (.bool (samEs l t)) ∧ Below w.heap.size w w' := by
  induction k with
  | zero =>
    intro l t a a' c c' w hk hin hin'
    obtain rfl : l = [] := by
      cases l with
      | nil => rfl
      | cons x r => rw [szL] at hk; have := x.sz_args; omega
    exact rsamE_nil t a a' c c' w hin hin'
  | succ k ih => exact fun l t a a' c c' w hk hin hin' => rsamE_step k ih l t a a' c c' w hk hin hin'
theorem rsamE_any (l t : List Ex) (a a' : Option Addr) (c c' : Nat) (w : World) (hin : HaveE w a c l) (hin' : HaveE w a' c' t) :
    Calls Tryd.prog 40 #[.slice a l.length c, .slice a' t.length c'] w fun e w' => e = .returned (.bool (samEs l t)) ∧ Below w.heap.size w w' := rsamE_k _ l t a a' c c' w (Nat.le_refl _) hin hin'
end Go.Proofs.YtkkcgkpbbngloaaDoor

/- The document's own answer whether two lists of statements are the same. -/
namespace Go.Proofs.YtkkcgkpbbngloaaDoor
open Go.RowKit Go.Sort
attribute [local go_sem ↓] Go.wp_at_zero Go.wp_at_succ

theorem ex_two {w : World} {bz : Nat} {x y : Ex} (h : ∀ (i : Nat) v, (x.cells ++ y.cells)[i]? = some v → w.cell? ⟨bz, i, none⟩ = some v) (hx : x.In w) (hy : y.In w) : HaveE w (some ⟨bz, 0, none⟩) 2 [x, y] := by
  refine ⟨Nat.le_refl _, by decide, fun i cs hi => ⟨bz, 0, rfl, fun j v hj => ?_⟩, by simp [hx, hy]⟩
  match i, hi with
  | 0, hi =>
    obtain rfl : x.cells = cs := by simpa using hi
    have hl := (List.getElem?_eq_some_iff.1 hj).1
    simpa using h j v (by rw [List.getElem?_append_left hl]; exact hj)
  | 1, hi =>
    obtain rfl : y.cells = cs := by simpa using hi
    have := h (4 + j) v (by rw [List.getElem?_append_right (by simp [Ex.cells])]; simpa [Ex.cells] using hj)
    simpa using this
  | n + 2, hi => simp at hi

theorem two_exprs {w : World} {x y : St} (hx : x.In ((w.alloc (.cells (⟨x.a.cells ++ x.b.cells⟩ : Array Value) 41)).alloc (.cells (⟨y.a.cells ++ y.b.cells⟩ : Array Value) 41))) (hy : y.In ((w.alloc (.cells (⟨x.a.cells ++ x.b.cells⟩ : Array Value) 41)).alloc (.cells (⟨y.a.cells ++ y.b.cells⟩ : Array Value) 41))) :
    Calls Tryd.prog 40 #[.slice (some ⟨w.heap.size, 0, none⟩) 2 2, .slice (some ⟨w.heap.size + 1, 0, none⟩) 2 2] ((w.alloc (.cells (⟨x.a.cells ++ x.b.cells⟩ : Array Value) 41)).alloc (.cells (⟨y.a.cells ++ y.b.cells⟩ : Array Value) 41))
      fun e w' => e = .returned (.bool (samE x.a y.a && samE x.b y.b)) ∧ Below ((w.alloc (.cells (⟨x.a.cells ++ x.b.cells⟩ : Array Value) 41)).alloc (.cells (⟨y.a.cells ++ y.b.cells⟩ : Array Value) 41)).heap.size ((w.alloc (.cells (⟨x.a.cells ++ x.b.cells⟩ : Array Value) 41)).alloc (.cells (⟨y.a.cells ++ y.b.cells⟩ : Array Value) 41)) w' := by
  obtain ⟨p1, p2, _⟩ := two_cells (w := w) (Below.refl _ ((w.alloc (.cells (⟨x.a.cells ++ x.b.cells⟩ : Array Value) 41)).alloc (.cells (⟨y.a.cells ++ y.b.cells⟩ : Array Value) 41)))
  have h1 := St.in_iff.1 hx
  have h2 := St.in_iff.1 hy
  refine (rsamE_any [x.a, x.b] [y.a, y.b] _ _ 2 2 _ (ex_two (fun i v e => p1 i v (by simpa using e)) h1.2.2.2.1 h1.2.2.2.2.1) (ex_two (fun i v e => p2 i v (by simpa using e)) h2.2.2.2.1 h2.2.2.2.2.1)).mono ?_
  rintro e w' ⟨rfl, hb⟩
  refine ⟨ret_bool ?_, hb⟩
  simp [samEs]

set_option maxRecDepth 100000 in
set_option maxHeartbeats 8000000 in
theorem rsamS_step (n : Nat) (ih : ∀ (l t : List St) (a a' : Option Addr) (c c' : Nat) (w : World), ssz l < n → Have w a c l → Have w a' c' t →
      Calls Tryd.prog 26 #[.slice a l.length c, .slice a' t.length c'] w fun e w' => e = .returned (.bool (samSs l t)) ∧ Below w.heap.size w w')
    (ihc : ∀ (l t : List Ca) (a a' : Option Addr) (c c' : Nat) (w : World), csz l ≤ n → HaveC w a c l → HaveC w a' c' t →
      Calls Tryd.prog 41 #[.slice a l.length c, .slice a' t.length c'] w fun e w' => e = .returned (.bool (samCs l t)) ∧ Below w.heap.size w w')
    (l t : List St) (a a' : Option Addr) (c c' : Nat) (w : World) (hk : ssz l ≤ n) (hin : Have w a c l) (hin' : Have w a' c' t) :
    Calls Tryd.prog 26 #[.slice a l.length c, .slice a' t.length c'] w fun e w' => e = .returned (.bool (samSs l t)) ∧ Below w.heap.size w w' := by
  have IH : Hid (∀ (l t : List St) (a a' : Option Addr) (c c' : Nat) (w : World), ssz l < n → Have w a c l → Have w a' c' t →
      Calls Tryd.prog 26 #[.slice a l.length c, .slice a' t.length c'] w fun e w' => e = .returned (.bool (samSs l t)) ∧ Below w.heap.size w w') := ih
  have IHC : Hid (∀ (l t : List Ca) (a a' : Option Addr) (c c' : Nat) (w : World), csz l ≤ n → HaveC w a c l → HaveC w a' c' t →
      Calls Tryd.prog 41 #[.slice a l.length c, .slice a' t.length c'] w fun e w' => e = .returned (.bool (samCs l t)) ∧ Below w.heap.size w w') := ihc
  have HA : Hid (Have w a c l) := hin
  have HB : Hid (Have w a' c' t) := hin'
  have hl := hin.1.1
  have hc := hin.1.2.1
  have hl' := hin'.1.1
  have hc' := hin'.1.2.1
  have HK : Hid (ssz l ≤ n) := hk
  clear ih ihc hin hin' hk
  by_cases hle : l.length = t.length
  · have HL : Hid (l.length = t.length) := hle
    rw [← hle] at hl' ⊢
    clear hle
    go_enter Tryd.func26, Tryd.ntmps26
    go_wp2_with fail
    go_loopw [5] (fun t5 wr => ∃ (j : Nat), j ≤ l.length ∧ t5 = .int .i64 j ∧ samSs (l.drop j) (t.drop j) = samSs l t ∧ Below w.heap.size w wr) (fun t5 _ => l.length - (intOf t5).toNat)
    case atStart => exact ⟨0, Nat.zero_le _, rfl, rfl, Below.refl _ w⟩
    case round =>
      obtain ⟨j, hj, rfl, hcnt, hb⟩ := hrel
      have HC : Hid (samSs (l.drop j) (t.drop j) = samSs l t) := hcnt
      clear hcnt
      have hws := hb.size
      by_cases hlt : j < l.length
      · have hlt' : j < t.length := by have := HL.out; omega
        have HRA : Hid (RowIn wr a 14 (l.map St.cells)) := HA.out.1.2.2.2.below hb
        have HRB : Hid (RowIn wr a' 14 (t.map St.cells)) := HB.out.1.2.2.2.below hb
        obtain ⟨b, o, ha, hc1⟩ := rowS_at HRA.out hlt
        obtain ⟨b', o', ha', hc2⟩ := rowS_at HRB.out hlt'
        subst ha ha'
        have hli : (j : Int) < (l.length : Int) := by omega
        have hli0 : (0 : Int) ≤ (j : Int) := by omega
        have XI : Hid (∀ w', Below w.heap.size w w' → l[j].In w') := fun w' h => (HA.out.2 l[j] (List.getElem_mem hlt)).stay h
        have YI : Hid (∀ w', Below w.heap.size w w' → t[j].In w') := fun w' h => (HB.out.2 t[j] (List.getElem_mem hlt')).stay h
        have HZ : Hid (l[j].sz ≤ n) := Nat.le_trans (ssz_mem (List.getElem_mem hlt)) HK.out
        have HD : Hid (samSs (l.drop j) (t.drop j) = ((l[j].kind == t[j].kind && (l[j].name.toList == t[j].name.toList && (l[j].n == t[j].n && (samE l[j].a t[j].a && (samE l[j].b t[j].b && (samSs l[j].body t[j].body && (samSs l[j].els t[j].els && samCs l[j].cases t[j].cases))))))) && samSs (l.drop (j + 1)) (t.drop (j + 1)))) := by
          show _ = _; rw [samSs_drop hlt hlt', samS_eq]
        generalize l[j] = x at *
        generalize t[j] = y at *
        go_upto_region 6 with fail
        go_cut [6, 7] from 13 to 81 (fun t6 t7 wx => ∃ bx bz, t6 = .pointer (some ⟨bx, 0, none⟩) ∧ t7 = .pointer (some ⟨bz, 0, none⟩) ∧ (∀ (j : Nat) v, x.cells[j]? = some v → wx.cell? ⟨bx, j, none⟩ = some v) ∧ (∀ (j : Nat) v, y.cells[j]? = some v → wx.cell? ⟨bz, j, none⟩ = some v) ∧ Below wr.heap.size wr wx)
        case first =>
          have c0 : ∀ w', Below wr.heap.size wr w' → w'.cell? ⟨b, o + j * 14, none⟩ = some (.int .i64 x.kind) := seen (by have := hc1 0 _ rfl; simpa only [← Nat.add_assoc, Nat.add_zero] using this)
          have c1 : ∀ w', Below wr.heap.size wr w' → w'.cell? ⟨b, o + j * 14 + 1, none⟩ = some (.string x.name) := seen (by have := hc1 1 _ rfl; simpa only [← Nat.add_assoc, Nat.add_zero] using this)
          have c2 : ∀ w', Below wr.heap.size wr w' → w'.cell? ⟨b, o + j * 14 + 2, none⟩ = some (.int .i64 x.n) := seen (by have := hc1 2 _ rfl; simpa only [← Nat.add_assoc, Nat.add_zero] using this)
          have c3 : ∀ w', Below wr.heap.size wr w' → w'.cell? ⟨b, o + j * 14 + 3, none⟩ = some (.int .i64 x.a.kind) := seen (by have := hc1 3 _ rfl; simpa only [← Nat.add_assoc, Nat.add_zero] using this)
          have c4 : ∀ w', Below wr.heap.size wr w' → w'.cell? ⟨b, o + j * 14 + 4, none⟩ = some (.int .i64 x.a.n) := seen (by have := hc1 4 _ rfl; simpa only [← Nat.add_assoc, Nat.add_zero] using this)
          have c5 : ∀ w', Below wr.heap.size wr w' → w'.cell? ⟨b, o + j * 14 + 5, none⟩ = some (.string x.a.name) := seen (by have := hc1 5 _ rfl; simpa only [← Nat.add_assoc, Nat.add_zero] using this)
          have c6 : ∀ w', Below wr.heap.size wr w' → w'.cell? ⟨b, o + j * 14 + 6, none⟩ = some (.slice x.a.a x.a.args.length x.a.cap) := seen (by have := hc1 6 _ rfl; simpa only [← Nat.add_assoc, Nat.add_zero] using this)
          have c7 : ∀ w', Below wr.heap.size wr w' → w'.cell? ⟨b, o + j * 14 + 7, none⟩ = some (.int .i64 x.b.kind) := seen (by have := hc1 7 _ rfl; simpa only [← Nat.add_assoc, Nat.add_zero] using this)
          have c8 : ∀ w', Below wr.heap.size wr w' → w'.cell? ⟨b, o + j * 14 + 8, none⟩ = some (.int .i64 x.b.n) := seen (by have := hc1 8 _ rfl; simpa only [← Nat.add_assoc, Nat.add_zero] using this)
          have c9 : ∀ w', Below wr.heap.size wr w' → w'.cell? ⟨b, o + j * 14 + 9, none⟩ = some (.string x.b.name) := seen (by have := hc1 9 _ rfl; simpa only [← Nat.add_assoc, Nat.add_zero] using this)
          have c10 : ∀ w', Below wr.heap.size wr w' → w'.cell? ⟨b, o + j * 14 + 10, none⟩ = some (.slice x.b.a x.b.args.length x.b.cap) := seen (by have := hc1 10 _ rfl; simpa only [← Nat.add_assoc, Nat.add_zero] using this)
          have c11 : ∀ w', Below wr.heap.size wr w' → w'.cell? ⟨b, o + j * 14 + 11, none⟩ = some (.slice x.ba x.body.length x.bc) := seen (by have := hc1 11 _ rfl; simpa only [← Nat.add_assoc, Nat.add_zero] using this)
          have c12 : ∀ w', Below wr.heap.size wr w' → w'.cell? ⟨b, o + j * 14 + 12, none⟩ = some (.slice x.ea x.els.length x.ec) := seen (by have := hc1 12 _ rfl; simpa only [← Nat.add_assoc, Nat.add_zero] using this)
          have c13 : ∀ w', Below wr.heap.size wr w' → w'.cell? ⟨b, o + j * 14 + 13, none⟩ = some (.slice x.ca x.cases.length x.cc) := seen (by have := hc1 13 _ rfl; simpa only [← Nat.add_assoc, Nat.add_zero] using this)
          have d0 : ∀ w', Below wr.heap.size wr w' → w'.cell? ⟨b', o' + j * 14, none⟩ = some (.int .i64 y.kind) := seen (by have := hc2 0 _ rfl; simpa only [← Nat.add_assoc, Nat.add_zero] using this)
          have d1 : ∀ w', Below wr.heap.size wr w' → w'.cell? ⟨b', o' + j * 14 + 1, none⟩ = some (.string y.name) := seen (by have := hc2 1 _ rfl; simpa only [← Nat.add_assoc, Nat.add_zero] using this)
          have d2 : ∀ w', Below wr.heap.size wr w' → w'.cell? ⟨b', o' + j * 14 + 2, none⟩ = some (.int .i64 y.n) := seen (by have := hc2 2 _ rfl; simpa only [← Nat.add_assoc, Nat.add_zero] using this)
          have d3 : ∀ w', Below wr.heap.size wr w' → w'.cell? ⟨b', o' + j * 14 + 3, none⟩ = some (.int .i64 y.a.kind) := seen (by have := hc2 3 _ rfl; simpa only [← Nat.add_assoc, Nat.add_zero] using this)
          have d4 : ∀ w', Below wr.heap.size wr w' → w'.cell? ⟨b', o' + j * 14 + 4, none⟩ = some (.int .i64 y.a.n) := seen (by have := hc2 4 _ rfl; simpa only [← Nat.add_assoc, Nat.add_zero] using this)
          have d5 : ∀ w', Below wr.heap.size wr w' → w'.cell? ⟨b', o' + j * 14 + 5, none⟩ = some (.string y.a.name) := seen (by have := hc2 5 _ rfl; simpa only [← Nat.add_assoc, Nat.add_zero] using this)
          have d6 : ∀ w', Below wr.heap.size wr w' → w'.cell? ⟨b', o' + j * 14 + 6, none⟩ = some (.slice y.a.a y.a.args.length y.a.cap) := seen (by have := hc2 6 _ rfl; simpa only [← Nat.add_assoc, Nat.add_zero] using this)
          have d7 : ∀ w', Below wr.heap.size wr w' → w'.cell? ⟨b', o' + j * 14 + 7, none⟩ = some (.int .i64 y.b.kind) := seen (by have := hc2 7 _ rfl; simpa only [← Nat.add_assoc, Nat.add_zero] using this)
          have d8 : ∀ w', Below wr.heap.size wr w' → w'.cell? ⟨b', o' + j * 14 + 8, none⟩ = some (.int .i64 y.b.n) := seen (by have := hc2 8 _ rfl; simpa only [← Nat.add_assoc, Nat.add_zero] using this)
          have d9 : ∀ w', Below wr.heap.size wr w' → w'.cell? ⟨b', o' + j * 14 + 9, none⟩ = some (.string y.b.name) := seen (by have := hc2 9 _ rfl; simpa only [← Nat.add_assoc, Nat.add_zero] using this)
          have d10 : ∀ w', Below wr.heap.size wr w' → w'.cell? ⟨b', o' + j * 14 + 10, none⟩ = some (.slice y.b.a y.b.args.length y.b.cap) := seen (by have := hc2 10 _ rfl; simpa only [← Nat.add_assoc, Nat.add_zero] using this)
          have d11 : ∀ w', Below wr.heap.size wr w' → w'.cell? ⟨b', o' + j * 14 + 11, none⟩ = some (.slice y.ba y.body.length y.bc) := seen (by have := hc2 11 _ rfl; simpa only [← Nat.add_assoc, Nat.add_zero] using this)
          have d12 : ∀ w', Below wr.heap.size wr w' → w'.cell? ⟨b', o' + j * 14 + 12, none⟩ = some (.slice y.ea y.els.length y.ec) := seen (by have := hc2 12 _ rfl; simpa only [← Nat.add_assoc, Nat.add_zero] using this)
          have d13 : ∀ w', Below wr.heap.size wr w' → w'.cell? ⟨b', o' + j * 14 + 13, none⟩ = some (.slice y.ca y.cases.length y.cc) := seen (by have := hc2 13 _ rfl; simpa only [← Nat.add_assoc, Nat.add_zero] using this)
          clear hc1 hc2
          go_region_held3 (fun w' => Below wr.heap.size wr w') (first | exact Below.drew (Below.refl _ _) | exact Below.drew (Below.one (Below.refl _ _) _) | exact Below.drew (Below.one (Below.one (Below.refl _ _) _) _) | exact Below.on (by assumption) (by assumption) | exact Below.one (by assumption) _) (fail)
          all_goals (go_wp2_with fail; go_meet)
          case rel =>
            obtain ⟨p1, p2, _⟩ := two_cells (w := wr) (Below.drew (Below.refl _ ((wr.alloc (.cells (⟨x.cells⟩ : Array Value) 44)).alloc (.cells (⟨y.cells⟩ : Array Value) 44))))
            exact ⟨_, _, rfl, rfl, fun i v h => p1 i v (by simpa using h), fun i v h => p2 i v (by simpa using h), Below.drew (Below.one (Below.one (Below.refl _ _) _) _)⟩
          case rel =>
            obtain ⟨p1, p2, _⟩ := two_cells (w := wr) (Below.drew (Below.refl _ ((wr.alloc (.cells (⟨y.cells⟩ : Array Value) 44)).alloc (.cells (⟨x.cells⟩ : Array Value) 44))))
            exact ⟨_, _, rfl, rfl, fun i v h => p2 i v (by simpa using h), fun i v h => p1 i v (by simpa using h), Below.drew (Below.one (Below.one (Below.refl _ _) _) _)⟩
        case rest =>
          obtain ⟨bx, bz, rfl, rfl, hx, hy, hbx⟩ := hcut
          have hbw : Below w.heap.size w wc := hb.trans (hbx.mono hws)
          have CX : Hid (∀ w', Below wc.heap.size wc w' → ∀ (i : Nat) v, x.cells[i]? = some v → w'.cell? ⟨bx, i, none⟩ = some v) := fun w' h i v e => seen (hx i v e) w' h
          have CY : Hid (∀ w', Below wc.heap.size wc w' → ∀ (i : Nat) v, y.cells[i]? = some v → w'.cell? ⟨bz, i, none⟩ = some v) := fun w' h i v e => seen (hy i v e) w' h
          have BW : Hid (Below w.heap.size w wc) := hbw
          clear hx hy hc1 hc2 hb hbx hws hbw
          have c0 := CX.out wc (Below.refl _ _) 0 _ rfl
          have d0 := CY.out wc (Below.refl _ _) 0 _ rfl
          have c1 := CX.out wc (Below.refl _ _) 1 _ rfl
          have d1 := CY.out wc (Below.refl _ _) 1 _ rfl
          have c2 := CX.out wc (Below.refl _ _) 2 _ rfl
          have d2 := CY.out wc (Below.refl _ _) 2 _ rfl
          cases e1 : (x.kind == y.kind)
          · have e1' : (x.kind != y.kind) = true := by simp [bne, e1]
            rw [e1] at HD
            go_wp2_with fail
            go_ret
            exact ⟨ret_bool (by rw [← HC.out, HD.out]; rfl), BW.out⟩
          · have e1' : (x.kind != y.kind) = false := by simp [bne, e1]
            rw [e1] at HD
            cases e2 : (x.name.toList == y.name.toList)
            · have e2' : (x.name.toList != y.name.toList) = true := by simp [bne, e2]
              rw [e2] at HD
              go_wp2_with fail
              go_ret
              exact ⟨ret_bool (by rw [← HC.out, HD.out]; rfl), BW.out⟩
            · have e2' : (x.name.toList != y.name.toList) = false := by simp [bne, e2]
              rw [e2] at HD
              cases e3 : (x.n == y.n)
              · have e3' : (x.n != y.n) = true := by simp [bne, e3]
                rw [e3] at HD
                go_wp2_with fail
                go_ret
                exact ⟨ret_bool (by rw [← HC.out, HD.out]; rfl), BW.out⟩
              · have e3' : (x.n != y.n) = false := by simp [bne, e3]
                rw [e3] at HD
                have c3 := CX.out wc (Below.refl _ _) 3 _ rfl
                have d3 := CY.out wc (Below.refl _ _) 3 _ rfl
                have c4 := CX.out wc (Below.refl _ _) 4 _ rfl
                have d4 := CY.out wc (Below.refl _ _) 4 _ rfl
                have c5 := CX.out wc (Below.refl _ _) 5 _ rfl
                have d5 := CY.out wc (Below.refl _ _) 5 _ rfl
                have c6 := CX.out wc (Below.refl _ _) 6 _ rfl
                have d6 := CY.out wc (Below.refl _ _) 6 _ rfl
                have c7 := CX.out wc (Below.refl _ _) 7 _ rfl
                have d7 := CY.out wc (Below.refl _ _) 7 _ rfl
                have c8 := CX.out wc (Below.refl _ _) 8 _ rfl
                have d8 := CY.out wc (Below.refl _ _) 8 _ rfl
                have c9 := CX.out wc (Below.refl _ _) 9 _ rfl
                have d9 := CY.out wc (Below.refl _ _) 9 _ rfl
                have c10 := CX.out wc (Below.refl _ _) 10 _ rfl
                have d10 := CY.out wc (Below.refl _ _) 10 _ rfl
                have g3 := CY.out (wc.alloc (.cells #[.int .i64 x.a.kind, .int .i64 x.a.n, .string x.a.name, .slice x.a.a x.a.args.length x.a.cap, .int .i64 x.b.kind, .int .i64 x.b.n, .string x.b.name, .slice x.b.a x.b.args.length x.b.cap] 41)) (Below.one (Below.refl _ _) _) 3 _ rfl
                have g4 := CY.out (wc.alloc (.cells #[.int .i64 x.a.kind, .int .i64 x.a.n, .string x.a.name, .slice x.a.a x.a.args.length x.a.cap, .int .i64 x.b.kind, .int .i64 x.b.n, .string x.b.name, .slice x.b.a x.b.args.length x.b.cap] 41)) (Below.one (Below.refl _ _) _) 4 _ rfl
                have g5 := CY.out (wc.alloc (.cells #[.int .i64 x.a.kind, .int .i64 x.a.n, .string x.a.name, .slice x.a.a x.a.args.length x.a.cap, .int .i64 x.b.kind, .int .i64 x.b.n, .string x.b.name, .slice x.b.a x.b.args.length x.b.cap] 41)) (Below.one (Below.refl _ _) _) 5 _ rfl
                have g6 := CY.out (wc.alloc (.cells #[.int .i64 x.a.kind, .int .i64 x.a.n, .string x.a.name, .slice x.a.a x.a.args.length x.a.cap, .int .i64 x.b.kind, .int .i64 x.b.n, .string x.b.name, .slice x.b.a x.b.args.length x.b.cap] 41)) (Below.one (Below.refl _ _) _) 6 _ rfl
                have g7 := CY.out (wc.alloc (.cells #[.int .i64 x.a.kind, .int .i64 x.a.n, .string x.a.name, .slice x.a.a x.a.args.length x.a.cap, .int .i64 x.b.kind, .int .i64 x.b.n, .string x.b.name, .slice x.b.a x.b.args.length x.b.cap] 41)) (Below.one (Below.refl _ _) _) 7 _ rfl
                have g8 := CY.out (wc.alloc (.cells #[.int .i64 x.a.kind, .int .i64 x.a.n, .string x.a.name, .slice x.a.a x.a.args.length x.a.cap, .int .i64 x.b.kind, .int .i64 x.b.n, .string x.b.name, .slice x.b.a x.b.args.length x.b.cap] 41)) (Below.one (Below.refl _ _) _) 8 _ rfl
                have g9 := CY.out (wc.alloc (.cells #[.int .i64 x.a.kind, .int .i64 x.a.n, .string x.a.name, .slice x.a.a x.a.args.length x.a.cap, .int .i64 x.b.kind, .int .i64 x.b.n, .string x.b.name, .slice x.b.a x.b.args.length x.b.cap] 41)) (Below.one (Below.refl _ _) _) 9 _ rfl
                have g10 := CY.out (wc.alloc (.cells #[.int .i64 x.a.kind, .int .i64 x.a.n, .string x.a.name, .slice x.a.a x.a.args.length x.a.cap, .int .i64 x.b.kind, .int .i64 x.b.n, .string x.b.name, .slice x.b.a x.b.args.length x.b.cap] 41)) (Below.one (Below.refl _ _) _) 10 _ rfl
                have hbA : Below wc.heap.size wc ((wc.alloc (.cells #[.int .i64 x.a.kind, .int .i64 x.a.n, .string x.a.name, .slice x.a.a x.a.args.length x.a.cap, .int .i64 x.b.kind, .int .i64 x.b.n, .string x.b.name, .slice x.b.a x.b.args.length x.b.cap] 41)).alloc (.cells #[.int .i64 y.a.kind, .int .i64 y.a.n, .string y.a.name, .slice y.a.a y.a.args.length y.a.cap, .int .i64 y.b.kind, .int .i64 y.b.n, .string y.b.name, .slice y.b.a y.b.args.length y.b.cap] 41)) := Below.one (Below.one (Below.refl _ _) _) _
                have HQ : Hid (Calls Tryd.prog 40 #[.slice (some ⟨wc.heap.size, 0, none⟩) 2 2, .slice (some ⟨wc.heap.size + 1, 0, none⟩) 2 2] ((wc.alloc (.cells #[.int .i64 x.a.kind, .int .i64 x.a.n, .string x.a.name, .slice x.a.a x.a.args.length x.a.cap, .int .i64 x.b.kind, .int .i64 x.b.n, .string x.b.name, .slice x.b.a x.b.args.length x.b.cap] 41)).alloc (.cells #[.int .i64 y.a.kind, .int .i64 y.a.n, .string y.a.name, .slice y.a.a y.a.args.length y.a.cap, .int .i64 y.b.kind, .int .i64 y.b.n, .string y.b.name, .slice y.b.a y.b.args.length y.b.cap] 41)) fun e w' => e = .returned (.bool (samE x.a y.a && samE x.b y.b)) ∧ Below ((wc.alloc (.cells #[.int .i64 x.a.kind, .int .i64 x.a.n, .string x.a.name, .slice x.a.a x.a.args.length x.a.cap, .int .i64 x.b.kind, .int .i64 x.b.n, .string x.b.name, .slice x.b.a x.b.args.length x.b.cap] 41)).alloc (.cells #[.int .i64 y.a.kind, .int .i64 y.a.n, .string y.a.name, .slice y.a.a y.a.args.length y.a.cap, .int .i64 y.b.kind, .int .i64 y.b.n, .string y.b.name, .slice y.b.a y.b.args.length y.b.cap] 41)).heap.size ((wc.alloc (.cells #[.int .i64 x.a.kind, .int .i64 x.a.n, .string x.a.name, .slice x.a.a x.a.args.length x.a.cap, .int .i64 x.b.kind, .int .i64 x.b.n, .string x.b.name, .slice x.b.a x.b.args.length x.b.cap] 41)).alloc (.cells #[.int .i64 y.a.kind, .int .i64 y.a.n, .string y.a.name, .slice y.a.a y.a.args.length y.a.cap, .int .i64 y.b.kind, .int .i64 y.b.n, .string y.b.name, .slice y.b.a y.b.args.length y.b.cap] 41)) w') := two_exprs (XI.out _ (Below.on BW.out hbA)) (YI.out _ (Below.on BW.out hbA))
                generalize samE x.a y.a = qa at HQ HD
                generalize samE x.b y.b = qb at HQ HD
                go_wp2_with fail
                refine HQ.out.mono ?_
                rintro e w2 ⟨rfl, hb2⟩
                have hb2' := Below.on hbA hb2
                clear g3 g4 g5 g6 g7 g8 g9 g10 c0 c1 c2 c3 c4 c5 c6 c7 c8 c9 c10 d0 d1 d2 d3 d4 d5 d6 d7 d8 d9 d10 HQ hbA hb2
                have c11 := CX.out w2 hb2' 11 _ rfl
                have d11 := CY.out w2 hb2' 11 _ rfl
                cases eq : (qa && qb)
                · have HF : Hid (samSs l t = false) := by
                    show _ = _
                    rw [← HC.out, HD.out]
                    cases qa <;> cases qb <;> simp_all
                  go_wp2_with fail
                  go_ret
                  exact ⟨ret_bool HF.out.symm, Below.on BW.out hb2'⟩
                · obtain ⟨rfl, rfl⟩ : qa = true ∧ qb = true := by cases qa <;> cases qb <;> simp_all
                  clear eq
                  have HB1 : Hid (∀ w', Below wc.heap.size wc w' → Calls Tryd.prog 26 #[.slice x.ba x.body.length x.bc, .slice y.ba y.body.length y.bc] w' fun e w'' => e = .returned (.bool (samSs x.body y.body)) ∧ Below w'.heap.size w' w'') := fun w' h => IH.out _ _ _ _ _ _ w' (by have := HZ.out; have := x.sz_eq; omega) (St.in_iff.1 (XI.out _ (Below.on BW.out h))).2.2.2.2.2.1 (St.in_iff.1 (YI.out _ (Below.on BW.out h))).2.2.2.2.2.1
                  have HB2 : Hid (∀ w', Below wc.heap.size wc w' → Calls Tryd.prog 26 #[.slice x.ea x.els.length x.ec, .slice y.ea y.els.length y.ec] w' fun e w'' => e = .returned (.bool (samSs x.els y.els)) ∧ Below w'.heap.size w' w'') := fun w' h => IH.out _ _ _ _ _ _ w' (by have := HZ.out; have := x.sz_eq; omega) (St.in_iff.1 (XI.out _ (Below.on BW.out h))).2.2.2.2.2.2.1 (St.in_iff.1 (YI.out _ (Below.on BW.out h))).2.2.2.2.2.2.1
                  have HB3 : Hid (∀ w', Below wc.heap.size wc w' → Calls Tryd.prog 41 #[.slice x.ca x.cases.length x.cc, .slice y.ca y.cases.length y.cc] w' fun e w'' => e = .returned (.bool (samCs x.cases y.cases)) ∧ Below w'.heap.size w' w'') := fun w' h => IHC.out _ _ _ _ _ _ w' (by have := HZ.out; have := x.sz_eq; omega) (St.in_iff.1 (XI.out _ (Below.on BW.out h))).2.2.2.2.2.2.2 (St.in_iff.1 (YI.out _ (Below.on BW.out h))).2.2.2.2.2.2.2
                  clear IH IHC
                  generalize samSs x.body y.body = r1 at HB1 HD
                  generalize samSs x.els y.els = r2 at HB2 HD
                  generalize samCs x.cases y.cases = r3 at HB3 HD
                  go_wp2_with fail
                  refine (HB1.out _ hb2').mono ?_
                  rintro e w3 ⟨rfl, hb3⟩
                  have hb3' := Below.on hb2' hb3
                  clear c11 d11 hb2' hb3
                  cases r1
                  · go_wp2_with fail
                    go_ret
                    exact ⟨ret_bool (by rw [← HC.out, HD.out]; rfl), Below.on BW.out hb3'⟩
                  · skip
                    have c12 := CX.out w3 hb3' 12 _ rfl
                    have d12 := CY.out w3 hb3' 12 _ rfl
                    go_wp2_with fail
                    refine (HB2.out _ hb3').mono ?_
                    rintro e w4 ⟨rfl, hb4⟩
                    have hb4' := Below.on hb3' hb4
                    clear c12 d12 hb3' hb4
                    cases r2
                    · go_wp2_with fail
                      go_ret
                      exact ⟨ret_bool (by rw [← HC.out, HD.out]; rfl), Below.on BW.out hb4'⟩
                    · skip
                      have c13 := CX.out w4 hb4' 13 _ rfl
                      have d13 := CY.out w4 hb4' 13 _ rfl
                      go_wp2_with fail
                      refine (HB3.out _ hb4').mono ?_
                      rintro e w5 ⟨rfl, hb5⟩
                      have hb5' := Below.on hb4' hb5
                      clear c13 d13 hb4' hb5
                      cases r3
                      · go_wp2_with fail
                        go_ret
                        exact ⟨ret_bool (by rw [← HC.out, HD.out]; rfl), Below.on BW.out hb5'⟩
                      · go_wp2_with fail
                        go_roundw
                        case rel => exact ⟨j + 1, by omega, by go_num, by rw [← HC.out, HD.out]; rfl, Below.on BW.out hb5'⟩
                        case measure => simp [intOf]; omega
      · go_wp2_with fail
        go_ret
        refine ⟨ret_bool ?_, hb⟩
        rw [← HC.out, List.drop_eq_nil_of_le (by omega), List.drop_eq_nil_of_le (by have := HL.out; omega)]; simp [samSs]
  · have hne : ((l.length : Int) != (t.length : Int)) = true := by simp only [bne_iff_ne]; omega
    go_enter Tryd.func26, Tryd.ntmps26
    go_wp2_with fail
    go_ret
    exact ⟨ret_bool (by rw [samSs_len hle]), Below.refl _ w⟩
end Go.Proofs.YtkkcgkpbbngloaaDoor
