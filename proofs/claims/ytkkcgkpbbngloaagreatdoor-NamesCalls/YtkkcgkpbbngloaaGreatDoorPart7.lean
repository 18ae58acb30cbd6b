/- The document's own question whether a statement has a form: kinds 8, 1, 5. -/
import Derived.Test.YtkkcgkpbbngloaaGreatDoorPart6
import Derived.Deep.CutBlock
namespace Go.Proofs.YtkkcgkpbbngloaaGreatDoor
open Go.RowKit Go.Sort

set_option maxRecDepth 100000 in
set_option maxHeartbeats 4000000 in
theorem formed_8 (s : St) (w : World) (hk : s.kind = 8) : Calls Tryz.prog 57 #[s.val] w fun e w' => e = .returned (.bool ((s.name.toList == []) && (s.n == 0) && zeroE s.a && zeroE s.b && ((s.body.length : Int) == 0) && ((s.els.length : Int) == 0) && ((s.cases.length : Int) == 0))) ∧ Below w.heap.size w w' := by
  have HC : Hid (∀ w, Calls Tryz.prog 56 #[.int .i64 8] w fun e w' => e = .returned (.agg #[.bool false, .bool false, .bool false, .bool false, .bool false, .bool false, .bool false]) ∧ Below w.heap.size w w') := fun w => counts_any 8 w
  have HA : Hid (∀ w, Calls Tryz.prog 79 #[s.a.val] w fun e w' => e = .returned (.bool (zeroE s.a)) ∧ Below w.heap.size w w') := fun w => rzero_any s.a w
  have HB : Hid (∀ w, Calls Tryz.prog 79 #[s.b.val] w fun e w' => e = .returned (.bool (zeroE s.b)) ∧ Below w.heap.size w w') := fun w => rzero_any s.b w
  have hb0 := (Below.refl _ w).alloc (Nat.le_refl _) (.cells #[.int .i64 s.kind, .string s.name, .int .i64 s.n, .int .i64 s.a.kind, .int .i64 s.a.n, .string s.a.name, .slice s.a.a s.a.args.length s.a.cap, .int .i64 s.b.kind, .int .i64 s.b.n, .string s.b.name, .slice s.b.a s.b.args.length s.b.cap, .slice s.ba s.body.length s.bc, .slice s.ea s.els.length s.ec, .slice s.ca s.cases.length s.cc] 44)
  have BXN : Hid (BoxS _ w.heap.size s) := boxS_new w s
  unfold St.val
  unfold Ex.val at HA HB
  rw [hk] at BXN hb0 ⊢
  have HK : Hid (s.kind = 8) := hk
  clear hk
  cases t0 : (s.name.toList == [])
  · go_enter Tryz.func57, Tryz.ntmps57
    go_wp2_with fail
    refine (HC.out _).mono ?_
    rintro e w1 ⟨rfl, hb1⟩
    have BX : Hid (BoxS w1 w.heap.size s) := BXN.out.below hb1 (by simp)
    have hbl : Below w.heap.size w w1 := hb0.trans (hb1.mono (by simp))
    have hs1 : w.heap.size < w1.heap.size := by have := hb1.size; simp at this; omega
    clear hb1
    have HBL : Hid (Below w.heap.size w (w1.alloc (.cells #[.bool false, .bool false, .bool false, .bool false, .bool false, .bool false, .bool false] 109))) := hbl.alloc (by omega) _
    have BX0 := BX.out
    have c0 := BX0 0 _ rfl
    have c1 := BX0 1 _ rfl
    have c2 := BX0 2 _ rfl
    have c3 := BX0 3 _ rfl
    have c4 := BX0 4 _ rfl
    have c5 := BX0 5 _ rfl
    have c6 := BX0 6 _ rfl
    have c7 := BX0 7 _ rfl
    have c8 := BX0 8 _ rfl
    have c9 := BX0 9 _ rfl
    have c10 := BX0 10 _ rfl
    have c11 := BX0 11 _ rfl
    have c12 := BX0 12 _ rfl
    have c13 := BX0 13 _ rfl
    rw [HK.out] at c0
    clear BX0
    go_upto_region 2 with fail
    simp only [List.append]
    go_wp2_with fail
    go_ret
    exact ⟨rfl, HBL.out⟩
  · cases t1 : (s.n == 0)
    · go_enter Tryz.func57, Tryz.ntmps57
      go_wp2_with fail
      refine (HC.out _).mono ?_
      rintro e w1 ⟨rfl, hb1⟩
      have BX : Hid (BoxS w1 w.heap.size s) := BXN.out.below hb1 (by simp)
      have hbl : Below w.heap.size w w1 := hb0.trans (hb1.mono (by simp))
      have hs1 : w.heap.size < w1.heap.size := by have := hb1.size; simp at this; omega
      clear hb1
      have HBL : Hid (Below w.heap.size w (w1.alloc (.cells #[.bool false, .bool false, .bool false, .bool false, .bool false, .bool false, .bool false] 109))) := hbl.alloc (by omega) _
      have BX0 := BX.out
      have c0 := BX0 0 _ rfl
      have c1 := BX0 1 _ rfl
      have c2 := BX0 2 _ rfl
      have c3 := BX0 3 _ rfl
      have c4 := BX0 4 _ rfl
      have c5 := BX0 5 _ rfl
      have c6 := BX0 6 _ rfl
      have c7 := BX0 7 _ rfl
      have c8 := BX0 8 _ rfl
      have c9 := BX0 9 _ rfl
      have c10 := BX0 10 _ rfl
      have c11 := BX0 11 _ rfl
      have c12 := BX0 12 _ rfl
      have c13 := BX0 13 _ rfl
      rw [HK.out] at c0
      clear BX0
      go_upto_region 2 with fail
      simp only [List.append]
      go_wp2_with fail
      go_ret
      exact ⟨rfl, HBL.out⟩
    · cases t2 : zeroE s.a
      · rw [t2] at HA
        go_enter Tryz.func57, Tryz.ntmps57
        go_wp2_with fail
        refine (HC.out _).mono ?_
        rintro e w1 ⟨rfl, hb1⟩
        have BX : Hid (BoxS w1 w.heap.size s) := BXN.out.below hb1 (by simp)
        have hbl : Below w.heap.size w w1 := hb0.trans (hb1.mono (by simp))
        have hs1 : w.heap.size < w1.heap.size := by have := hb1.size; simp at this; omega
        clear hb1
        have HBL : Hid (Below w.heap.size w (w1.alloc (.cells #[.bool false, .bool false, .bool false, .bool false, .bool false, .bool false, .bool false] 109))) := hbl.alloc (by omega) _
        have BX0 := BX.out
        have c0 := BX0 0 _ rfl
        have c1 := BX0 1 _ rfl
        have c2 := BX0 2 _ rfl
        have c3 := BX0 3 _ rfl
        have c4 := BX0 4 _ rfl
        have c5 := BX0 5 _ rfl
        have c6 := BX0 6 _ rfl
        have c7 := BX0 7 _ rfl
        have c8 := BX0 8 _ rfl
        have c9 := BX0 9 _ rfl
        have c10 := BX0 10 _ rfl
        have c11 := BX0 11 _ rfl
        have c12 := BX0 12 _ rfl
        have c13 := BX0 13 _ rfl
        rw [HK.out] at c0
        clear BX0
        go_upto_region 2 with fail
        simp only [List.append]
        go_wp2_with fail
        refine (HA.out _).mono ?_
        rintro e w2 ⟨rfl, hbc2⟩
        have CA : Hid (∀ (i : Nat) v, ([.bool false, .bool false, .bool false, .bool false, .bool false, .bool false, .bool false] : List Value)[i]? = some v → w2.cell? ⟨w1.heap.size, i, none⟩ = some v) := fun i v h => (hbc2.cell (p := ⟨w1.heap.size, i, none⟩) (by simp)).trans (by rw [World.cell?_alloc_at _ _ _ _ rfl]; simpa using h)
        have BY : Hid (BoxS w2 w.heap.size s) := BoxS.below (fun i v h => (World.cell?_alloc_past _ _ _ hs1).trans (BX.out i v h)) hbc2 (by simp; omega)
        have HBM : Hid (Below w.heap.size w w2) := HBL.out.trans (hbc2.mono (by simp; omega))
        have hs2 : w1.heap.size < w2.heap.size := by have := hbc2.size; simp at this; omega
        clear hbc2 c0 c1 c2 c3 c4 c5 c6 c7 c8 c9 c10 c11 c12 c13
        have CA0 := CA.out
        have BY0 := BY.out
        have d0 := CA0 0 _ rfl
        have d1 := CA0 1 _ rfl
        have d2 := CA0 2 _ rfl
        have d3 := CA0 3 _ rfl
        have d4 := CA0 4 _ rfl
        have d5 := CA0 5 _ rfl
        have d6 := CA0 6 _ rfl
        have c0 := BY0 0 _ rfl
        have c1 := BY0 1 _ rfl
        have c2 := BY0 2 _ rfl
        have c3 := BY0 3 _ rfl
        have c4 := BY0 4 _ rfl
        have c5 := BY0 5 _ rfl
        have c6 := BY0 6 _ rfl
        have c7 := BY0 7 _ rfl
        have c8 := BY0 8 _ rfl
        have c9 := BY0 9 _ rfl
        have c10 := BY0 10 _ rfl
        have c11 := BY0 11 _ rfl
        have c12 := BY0 12 _ rfl
        have c13 := BY0 13 _ rfl
        rw [HK.out] at c0
        clear CA0 BY0
        go_wp2_with fail
        go_ret
        exact ⟨rfl, HBM.out⟩
      · rw [t2] at HA
        cases t3 : zeroE s.b
        · rw [t3] at HB
          go_enter Tryz.func57, Tryz.ntmps57
          go_wp2_with fail
          refine (HC.out _).mono ?_
          rintro e w1 ⟨rfl, hb1⟩
          have BX : Hid (BoxS w1 w.heap.size s) := BXN.out.below hb1 (by simp)
          have hbl : Below w.heap.size w w1 := hb0.trans (hb1.mono (by simp))
          have hs1 : w.heap.size < w1.heap.size := by have := hb1.size; simp at this; omega
          clear hb1
          have HBL : Hid (Below w.heap.size w (w1.alloc (.cells #[.bool false, .bool false, .bool false, .bool false, .bool false, .bool false, .bool false] 109))) := hbl.alloc (by omega) _
          have BX0 := BX.out
          have c0 := BX0 0 _ rfl
          have c1 := BX0 1 _ rfl
          have c2 := BX0 2 _ rfl
          have c3 := BX0 3 _ rfl
          have c4 := BX0 4 _ rfl
          have c5 := BX0 5 _ rfl
          have c6 := BX0 6 _ rfl
          have c7 := BX0 7 _ rfl
          have c8 := BX0 8 _ rfl
          have c9 := BX0 9 _ rfl
          have c10 := BX0 10 _ rfl
          have c11 := BX0 11 _ rfl
          have c12 := BX0 12 _ rfl
          have c13 := BX0 13 _ rfl
          rw [HK.out] at c0
          clear BX0
          go_upto_region 2 with fail
          simp only [List.append]
          go_wp2_with fail
          refine (HA.out _).mono ?_
          rintro e w2 ⟨rfl, hbc2⟩
          have CA : Hid (∀ (i : Nat) v, ([.bool false, .bool false, .bool false, .bool false, .bool false, .bool false, .bool false] : List Value)[i]? = some v → w2.cell? ⟨w1.heap.size, i, none⟩ = some v) := fun i v h => (hbc2.cell (p := ⟨w1.heap.size, i, none⟩) (by simp)).trans (by rw [World.cell?_alloc_at _ _ _ _ rfl]; simpa using h)
          have BY : Hid (BoxS w2 w.heap.size s) := BoxS.below (fun i v h => (World.cell?_alloc_past _ _ _ hs1).trans (BX.out i v h)) hbc2 (by simp; omega)
          have HBM : Hid (Below w.heap.size w w2) := HBL.out.trans (hbc2.mono (by simp; omega))
          have hs2 : w1.heap.size < w2.heap.size := by have := hbc2.size; simp at this; omega
          clear hbc2 c0 c1 c2 c3 c4 c5 c6 c7 c8 c9 c10 c11 c12 c13
          have CA0 := CA.out
          have BY0 := BY.out
          have d0 := CA0 0 _ rfl
          have d1 := CA0 1 _ rfl
          have d2 := CA0 2 _ rfl
          have d3 := CA0 3 _ rfl
          have d4 := CA0 4 _ rfl
          have d5 := CA0 5 _ rfl
          have d6 := CA0 6 _ rfl
          have c0 := BY0 0 _ rfl
          have c1 := BY0 1 _ rfl
          have c2 := BY0 2 _ rfl
          have c3 := BY0 3 _ rfl
          have c4 := BY0 4 _ rfl
          have c5 := BY0 5 _ rfl
          have c6 := BY0 6 _ rfl
          have c7 := BY0 7 _ rfl
          have c8 := BY0 8 _ rfl
          have c9 := BY0 9 _ rfl
          have c10 := BY0 10 _ rfl
          have c11 := BY0 11 _ rfl
          have c12 := BY0 12 _ rfl
          have c13 := BY0 13 _ rfl
          rw [HK.out] at c0
          clear CA0 BY0
          go_wp2_with fail
          clear d0 d1 d2 d3 d4 d5 d6
          refine (HB.out _).mono ?_
          rintro e w3 ⟨rfl, hbc3⟩
          have CA3 : Hid (∀ (i : Nat) v, ([.bool false, .bool false, .bool false, .bool false, .bool false, .bool false, .bool false] : List Value)[i]? = some v → w3.cell? ⟨w1.heap.size, i, none⟩ = some v) := fun i v h => (hbc3.cell (p := ⟨w1.heap.size, i, none⟩) hs2).trans (CA.out i v h)
          have BY3 : Hid (BoxS w3 w.heap.size s) := BY.out.below hbc3 (by omega)
          have HBM3 : Hid (Below w.heap.size w w3) := HBM.out.trans (hbc3.mono (by omega))
          clear hbc3 c0 c1 c2 c3 c4 c5 c6 c7 c8 c9 c10 c11 c12 c13
          have CA0 := CA3.out
          have BY0 := BY3.out
          have d0 := CA0 0 _ rfl
          have d1 := CA0 1 _ rfl
          have d2 := CA0 2 _ rfl
          have d3 := CA0 3 _ rfl
          have d4 := CA0 4 _ rfl
          have d5 := CA0 5 _ rfl
          have d6 := CA0 6 _ rfl
          have c0 := BY0 0 _ rfl
          have c1 := BY0 1 _ rfl
          have c2 := BY0 2 _ rfl
          have c3 := BY0 3 _ rfl
          have c4 := BY0 4 _ rfl
          have c5 := BY0 5 _ rfl
          have c6 := BY0 6 _ rfl
          have c7 := BY0 7 _ rfl
          have c8 := BY0 8 _ rfl
          have c9 := BY0 9 _ rfl
          have c10 := BY0 10 _ rfl
          have c11 := BY0 11 _ rfl
          have c12 := BY0 12 _ rfl
          have c13 := BY0 13 _ rfl
          rw [HK.out] at c0
          clear CA0 BY0
          go_wp2_with fail
          go_ret
          exact ⟨rfl, HBM3.out⟩
        · rw [t3] at HB
          cases t4 : ((s.body.length : Int) == 0)
          · go_enter Tryz.func57, Tryz.ntmps57
            go_wp2_with fail
            refine (HC.out _).mono ?_
            rintro e w1 ⟨rfl, hb1⟩
            have BX : Hid (BoxS w1 w.heap.size s) := BXN.out.below hb1 (by simp)
            have hbl : Below w.heap.size w w1 := hb0.trans (hb1.mono (by simp))
            have hs1 : w.heap.size < w1.heap.size := by have := hb1.size; simp at this; omega
            clear hb1
            have HBL : Hid (Below w.heap.size w (w1.alloc (.cells #[.bool false, .bool false, .bool false, .bool false, .bool false, .bool false, .bool false] 109))) := hbl.alloc (by omega) _
            have BX0 := BX.out
            have c0 := BX0 0 _ rfl
            have c1 := BX0 1 _ rfl
            have c2 := BX0 2 _ rfl
            have c3 := BX0 3 _ rfl
            have c4 := BX0 4 _ rfl
            have c5 := BX0 5 _ rfl
            have c6 := BX0 6 _ rfl
            have c7 := BX0 7 _ rfl
            have c8 := BX0 8 _ rfl
            have c9 := BX0 9 _ rfl
            have c10 := BX0 10 _ rfl
            have c11 := BX0 11 _ rfl
            have c12 := BX0 12 _ rfl
            have c13 := BX0 13 _ rfl
            rw [HK.out] at c0
            clear BX0
            go_upto_region 2 with fail
            simp only [List.append]
            go_wp2_with fail
            refine (HA.out _).mono ?_
            rintro e w2 ⟨rfl, hbc2⟩
            have CA : Hid (∀ (i : Nat) v, ([.bool false, .bool false, .bool false, .bool false, .bool false, .bool false, .bool false] : List Value)[i]? = some v → w2.cell? ⟨w1.heap.size, i, none⟩ = some v) := fun i v h => (hbc2.cell (p := ⟨w1.heap.size, i, none⟩) (by simp)).trans (by rw [World.cell?_alloc_at _ _ _ _ rfl]; simpa using h)
            have BY : Hid (BoxS w2 w.heap.size s) := BoxS.below (fun i v h => (World.cell?_alloc_past _ _ _ hs1).trans (BX.out i v h)) hbc2 (by simp; omega)
            have HBM : Hid (Below w.heap.size w w2) := HBL.out.trans (hbc2.mono (by simp; omega))
            have hs2 : w1.heap.size < w2.heap.size := by have := hbc2.size; simp at this; omega
            clear hbc2 c0 c1 c2 c3 c4 c5 c6 c7 c8 c9 c10 c11 c12 c13
            have CA0 := CA.out
            have BY0 := BY.out
            have d0 := CA0 0 _ rfl
            have d1 := CA0 1 _ rfl
            have d2 := CA0 2 _ rfl
            have d3 := CA0 3 _ rfl
            have d4 := CA0 4 _ rfl
            have d5 := CA0 5 _ rfl
            have d6 := CA0 6 _ rfl
            have c0 := BY0 0 _ rfl
            have c1 := BY0 1 _ rfl
            have c2 := BY0 2 _ rfl
            have c3 := BY0 3 _ rfl
            have c4 := BY0 4 _ rfl
            have c5 := BY0 5 _ rfl
            have c6 := BY0 6 _ rfl
            have c7 := BY0 7 _ rfl
            have c8 := BY0 8 _ rfl
            have c9 := BY0 9 _ rfl
            have c10 := BY0 10 _ rfl
            have c11 := BY0 11 _ rfl
            have c12 := BY0 12 _ rfl
            have c13 := BY0 13 _ rfl
            rw [HK.out] at c0
            clear CA0 BY0
            go_wp2_with fail
            clear d0 d1 d2 d3 d4 d5 d6
            refine (HB.out _).mono ?_
            rintro e w3 ⟨rfl, hbc3⟩
            have CA3 : Hid (∀ (i : Nat) v, ([.bool false, .bool false, .bool false, .bool false, .bool false, .bool false, .bool false] : List Value)[i]? = some v → w3.cell? ⟨w1.heap.size, i, none⟩ = some v) := fun i v h => (hbc3.cell (p := ⟨w1.heap.size, i, none⟩) hs2).trans (CA.out i v h)
            have BY3 : Hid (BoxS w3 w.heap.size s) := BY.out.below hbc3 (by omega)
            have HBM3 : Hid (Below w.heap.size w w3) := HBM.out.trans (hbc3.mono (by omega))
            clear hbc3 c0 c1 c2 c3 c4 c5 c6 c7 c8 c9 c10 c11 c12 c13
            have CA0 := CA3.out
            have BY0 := BY3.out
            have d0 := CA0 0 _ rfl
            have d1 := CA0 1 _ rfl
            have d2 := CA0 2 _ rfl
            have d3 := CA0 3 _ rfl
            have d4 := CA0 4 _ rfl
            have d5 := CA0 5 _ rfl
            have d6 := CA0 6 _ rfl
            have c0 := BY0 0 _ rfl
            have c1 := BY0 1 _ rfl
            have c2 := BY0 2 _ rfl
            have c3 := BY0 3 _ rfl
            have c4 := BY0 4 _ rfl
            have c5 := BY0 5 _ rfl
            have c6 := BY0 6 _ rfl
            have c7 := BY0 7 _ rfl
            have c8 := BY0 8 _ rfl
            have c9 := BY0 9 _ rfl
            have c10 := BY0 10 _ rfl
            have c11 := BY0 11 _ rfl
            have c12 := BY0 12 _ rfl
            have c13 := BY0 13 _ rfl
            rw [HK.out] at c0
            clear CA0 BY0
            go_wp2_with fail
            go_ret
            exact ⟨rfl, HBM3.out⟩
          · cases t5 : ((s.els.length : Int) == 0)
            · go_enter Tryz.func57, Tryz.ntmps57
              go_wp2_with fail
              refine (HC.out _).mono ?_
              rintro e w1 ⟨rfl, hb1⟩
              have BX : Hid (BoxS w1 w.heap.size s) := BXN.out.below hb1 (by simp)
              have hbl : Below w.heap.size w w1 := hb0.trans (hb1.mono (by simp))
              have hs1 : w.heap.size < w1.heap.size := by have := hb1.size; simp at this; omega
              clear hb1
              have HBL : Hid (Below w.heap.size w (w1.alloc (.cells #[.bool false, .bool false, .bool false, .bool false, .bool false, .bool false, .bool false] 109))) := hbl.alloc (by omega) _
              have BX0 := BX.out
              have c0 := BX0 0 _ rfl
              have c1 := BX0 1 _ rfl
              have c2 := BX0 2 _ rfl
              have c3 := BX0 3 _ rfl
              have c4 := BX0 4 _ rfl
              have c5 := BX0 5 _ rfl
              have c6 := BX0 6 _ rfl
              have c7 := BX0 7 _ rfl
              have c8 := BX0 8 _ rfl
              have c9 := BX0 9 _ rfl
              have c10 := BX0 10 _ rfl
              have c11 := BX0 11 _ rfl
              have c12 := BX0 12 _ rfl
              have c13 := BX0 13 _ rfl
              rw [HK.out] at c0
              clear BX0
              go_upto_region 2 with fail
              simp only [List.append]
              go_wp2_with fail
              refine (HA.out _).mono ?_
              rintro e w2 ⟨rfl, hbc2⟩
              have CA : Hid (∀ (i : Nat) v, ([.bool false, .bool false, .bool false, .bool false, .bool false, .bool false, .bool false] : List Value)[i]? = some v → w2.cell? ⟨w1.heap.size, i, none⟩ = some v) := fun i v h => (hbc2.cell (p := ⟨w1.heap.size, i, none⟩) (by simp)).trans (by rw [World.cell?_alloc_at _ _ _ _ rfl]; simpa using h)
              have BY : Hid (BoxS w2 w.heap.size s) := BoxS.below (fun i v h => (World.cell?_alloc_past _ _ _ hs1).trans (BX.out i v h)) hbc2 (by simp; omega)
              have HBM : Hid (Below w.heap.size w w2) := HBL.out.trans (hbc2.mono (by simp; omega))
              have hs2 : w1.heap.size < w2.heap.size := by have := hbc2.size; simp at this; omega
              clear hbc2 c0 c1 c2 c3 c4 c5 c6 c7 c8 c9 c10 c11 c12 c13
              have CA0 := CA.out
              have BY0 := BY.out
              have d0 := CA0 0 _ rfl
              have d1 := CA0 1 _ rfl
              have d2 := CA0 2 _ rfl
              have d3 := CA0 3 _ rfl
              have d4 := CA0 4 _ rfl
              have d5 := CA0 5 _ rfl
              have d6 := CA0 6 _ rfl
              have c0 := BY0 0 _ rfl
              have c1 := BY0 1 _ rfl
              have c2 := BY0 2 _ rfl
              have c3 := BY0 3 _ rfl
              have c4 := BY0 4 _ rfl
              have c5 := BY0 5 _ rfl
              have c6 := BY0 6 _ rfl
              have c7 := BY0 7 _ rfl
              have c8 := BY0 8 _ rfl
              have c9 := BY0 9 _ rfl
              have c10 := BY0 10 _ rfl
              have c11 := BY0 11 _ rfl
              have c12 := BY0 12 _ rfl
              have c13 := BY0 13 _ rfl
              rw [HK.out] at c0
              clear CA0 BY0
              go_wp2_with fail
              clear d0 d1 d2 d3 d4 d5 d6
              refine (HB.out _).mono ?_
              rintro e w3 ⟨rfl, hbc3⟩
              have CA3 : Hid (∀ (i : Nat) v, ([.bool false, .bool false, .bool false, .bool false, .bool false, .bool false, .bool false] : List Value)[i]? = some v → w3.cell? ⟨w1.heap.size, i, none⟩ = some v) := fun i v h => (hbc3.cell (p := ⟨w1.heap.size, i, none⟩) hs2).trans (CA.out i v h)
              have BY3 : Hid (BoxS w3 w.heap.size s) := BY.out.below hbc3 (by omega)
              have HBM3 : Hid (Below w.heap.size w w3) := HBM.out.trans (hbc3.mono (by omega))
              clear hbc3 c0 c1 c2 c3 c4 c5 c6 c7 c8 c9 c10 c11 c12 c13
              have CA0 := CA3.out
              have BY0 := BY3.out
              have d0 := CA0 0 _ rfl
              have d1 := CA0 1 _ rfl
              have d2 := CA0 2 _ rfl
              have d3 := CA0 3 _ rfl
              have d4 := CA0 4 _ rfl
              have d5 := CA0 5 _ rfl
              have d6 := CA0 6 _ rfl
              have c0 := BY0 0 _ rfl
              have c1 := BY0 1 _ rfl
              have c2 := BY0 2 _ rfl
              have c3 := BY0 3 _ rfl
              have c4 := BY0 4 _ rfl
              have c5 := BY0 5 _ rfl
              have c6 := BY0 6 _ rfl
              have c7 := BY0 7 _ rfl
              have c8 := BY0 8 _ rfl
              have c9 := BY0 9 _ rfl
              have c10 := BY0 10 _ rfl
              have c11 := BY0 11 _ rfl
              have c12 := BY0 12 _ rfl
              have c13 := BY0 13 _ rfl
              rw [HK.out] at c0
              clear CA0 BY0
              go_wp2_with fail
              go_ret
              exact ⟨rfl, HBM3.out⟩
            · cases t6 : ((s.cases.length : Int) == 0)
              · go_enter Tryz.func57, Tryz.ntmps57
                go_wp2_with fail
                refine (HC.out _).mono ?_
                rintro e w1 ⟨rfl, hb1⟩
                have BX : Hid (BoxS w1 w.heap.size s) := BXN.out.below hb1 (by simp)
                have hbl : Below w.heap.size w w1 := hb0.trans (hb1.mono (by simp))
                have hs1 : w.heap.size < w1.heap.size := by have := hb1.size; simp at this; omega
                clear hb1
                have HBL : Hid (Below w.heap.size w (w1.alloc (.cells #[.bool false, .bool false, .bool false, .bool false, .bool false, .bool false, .bool false] 109))) := hbl.alloc (by omega) _
                have BX0 := BX.out
                have c0 := BX0 0 _ rfl
                have c1 := BX0 1 _ rfl
                have c2 := BX0 2 _ rfl
                have c3 := BX0 3 _ rfl
                have c4 := BX0 4 _ rfl
                have c5 := BX0 5 _ rfl
                have c6 := BX0 6 _ rfl
                have c7 := BX0 7 _ rfl
                have c8 := BX0 8 _ rfl
                have c9 := BX0 9 _ rfl
                have c10 := BX0 10 _ rfl
                have c11 := BX0 11 _ rfl
                have c12 := BX0 12 _ rfl
                have c13 := BX0 13 _ rfl
                rw [HK.out] at c0
                clear BX0
                go_upto_region 2 with fail
                simp only [List.append]
                go_wp2_with fail
                refine (HA.out _).mono ?_
                rintro e w2 ⟨rfl, hbc2⟩
                have CA : Hid (∀ (i : Nat) v, ([.bool false, .bool false, .bool false, .bool false, .bool false, .bool false, .bool false] : List Value)[i]? = some v → w2.cell? ⟨w1.heap.size, i, none⟩ = some v) := fun i v h => (hbc2.cell (p := ⟨w1.heap.size, i, none⟩) (by simp)).trans (by rw [World.cell?_alloc_at _ _ _ _ rfl]; simpa using h)
                have BY : Hid (BoxS w2 w.heap.size s) := BoxS.below (fun i v h => (World.cell?_alloc_past _ _ _ hs1).trans (BX.out i v h)) hbc2 (by simp; omega)
                have HBM : Hid (Below w.heap.size w w2) := HBL.out.trans (hbc2.mono (by simp; omega))
                have hs2 : w1.heap.size < w2.heap.size := by have := hbc2.size; simp at this; omega
                clear hbc2 c0 c1 c2 c3 c4 c5 c6 c7 c8 c9 c10 c11 c12 c13
                have CA0 := CA.out
                have BY0 := BY.out
                have d0 := CA0 0 _ rfl
                have d1 := CA0 1 _ rfl
                have d2 := CA0 2 _ rfl
                have d3 := CA0 3 _ rfl
                have d4 := CA0 4 _ rfl
                have d5 := CA0 5 _ rfl
                have d6 := CA0 6 _ rfl
                have c0 := BY0 0 _ rfl
                have c1 := BY0 1 _ rfl
                have c2 := BY0 2 _ rfl
                have c3 := BY0 3 _ rfl
                have c4 := BY0 4 _ rfl
                have c5 := BY0 5 _ rfl
                have c6 := BY0 6 _ rfl
                have c7 := BY0 7 _ rfl
                have c8 := BY0 8 _ rfl
                have c9 := BY0 9 _ rfl
                have c10 := BY0 10 _ rfl
                have c11 := BY0 11 _ rfl
                have c12 := BY0 12 _ rfl
                have c13 := BY0 13 _ rfl
                rw [HK.out] at c0
                clear CA0 BY0
                go_wp2_with fail
                clear d0 d1 d2 d3 d4 d5 d6
                refine (HB.out _).mono ?_
                rintro e w3 ⟨rfl, hbc3⟩
                have CA3 : Hid (∀ (i : Nat) v, ([.bool false, .bool false, .bool false, .bool false, .bool false, .bool false, .bool false] : List Value)[i]? = some v → w3.cell? ⟨w1.heap.size, i, none⟩ = some v) := fun i v h => (hbc3.cell (p := ⟨w1.heap.size, i, none⟩) hs2).trans (CA.out i v h)
                have BY3 : Hid (BoxS w3 w.heap.size s) := BY.out.below hbc3 (by omega)
                have HBM3 : Hid (Below w.heap.size w w3) := HBM.out.trans (hbc3.mono (by omega))
                clear hbc3 c0 c1 c2 c3 c4 c5 c6 c7 c8 c9 c10 c11 c12 c13
                have CA0 := CA3.out
                have BY0 := BY3.out
                have d0 := CA0 0 _ rfl
                have d1 := CA0 1 _ rfl
                have d2 := CA0 2 _ rfl
                have d3 := CA0 3 _ rfl
                have d4 := CA0 4 _ rfl
                have d5 := CA0 5 _ rfl
                have d6 := CA0 6 _ rfl
                have c0 := BY0 0 _ rfl
                have c1 := BY0 1 _ rfl
                have c2 := BY0 2 _ rfl
                have c3 := BY0 3 _ rfl
                have c4 := BY0 4 _ rfl
                have c5 := BY0 5 _ rfl
                have c6 := BY0 6 _ rfl
                have c7 := BY0 7 _ rfl
                have c8 := BY0 8 _ rfl
                have c9 := BY0 9 _ rfl
                have c10 := BY0 10 _ rfl
                have c11 := BY0 11 _ rfl
                have c12 := BY0 12 _ rfl
                have c13 := BY0 13 _ rfl
                rw [HK.out] at c0
                clear CA0 BY0
                go_wp2_with fail
                go_ret
                exact ⟨rfl, HBM3.out⟩
              · go_enter Tryz.func57, Tryz.ntmps57
                go_wp2_with fail
                refine (HC.out _).mono ?_
                rintro e w1 ⟨rfl, hb1⟩
                have BX : Hid (BoxS w1 w.heap.size s) := BXN.out.below hb1 (by simp)
                have hbl : Below w.heap.size w w1 := hb0.trans (hb1.mono (by simp))
                have hs1 : w.heap.size < w1.heap.size := by have := hb1.size; simp at this; omega
                clear hb1
                have HBL : Hid (Below w.heap.size w (w1.alloc (.cells #[.bool false, .bool false, .bool false, .bool false, .bool false, .bool false, .bool false] 109))) := hbl.alloc (by omega) _
                have BX0 := BX.out
                have c0 := BX0 0 _ rfl
                have c1 := BX0 1 _ rfl
                have c2 := BX0 2 _ rfl
                have c3 := BX0 3 _ rfl
                have c4 := BX0 4 _ rfl
                have c5 := BX0 5 _ rfl
                have c6 := BX0 6 _ rfl
                have c7 := BX0 7 _ rfl
                have c8 := BX0 8 _ rfl
                have c9 := BX0 9 _ rfl
                have c10 := BX0 10 _ rfl
                have c11 := BX0 11 _ rfl
                have c12 := BX0 12 _ rfl
                have c13 := BX0 13 _ rfl
                rw [HK.out] at c0
                clear BX0
                go_upto_region 2 with fail
                simp only [List.append]
                go_wp2_with fail
                refine (HA.out _).mono ?_
                rintro e w2 ⟨rfl, hbc2⟩
                have CA : Hid (∀ (i : Nat) v, ([.bool false, .bool false, .bool false, .bool false, .bool false, .bool false, .bool false] : List Value)[i]? = some v → w2.cell? ⟨w1.heap.size, i, none⟩ = some v) := fun i v h => (hbc2.cell (p := ⟨w1.heap.size, i, none⟩) (by simp)).trans (by rw [World.cell?_alloc_at _ _ _ _ rfl]; simpa using h)
                have BY : Hid (BoxS w2 w.heap.size s) := BoxS.below (fun i v h => (World.cell?_alloc_past _ _ _ hs1).trans (BX.out i v h)) hbc2 (by simp; omega)
                have HBM : Hid (Below w.heap.size w w2) := HBL.out.trans (hbc2.mono (by simp; omega))
                have hs2 : w1.heap.size < w2.heap.size := by have := hbc2.size; simp at this; omega
                clear hbc2 c0 c1 c2 c3 c4 c5 c6 c7 c8 c9 c10 c11 c12 c13
                have CA0 := CA.out
                have BY0 := BY.out
                have d0 := CA0 0 _ rfl
                have d1 := CA0 1 _ rfl
                have d2 := CA0 2 _ rfl
                have d3 := CA0 3 _ rfl
                have d4 := CA0 4 _ rfl
                have d5 := CA0 5 _ rfl
                have d6 := CA0 6 _ rfl
                have c0 := BY0 0 _ rfl
                have c1 := BY0 1 _ rfl
                have c2 := BY0 2 _ rfl
                have c3 := BY0 3 _ rfl
                have c4 := BY0 4 _ rfl
                have c5 := BY0 5 _ rfl
                have c6 := BY0 6 _ rfl
                have c7 := BY0 7 _ rfl
                have c8 := BY0 8 _ rfl
                have c9 := BY0 9 _ rfl
                have c10 := BY0 10 _ rfl
                have c11 := BY0 11 _ rfl
                have c12 := BY0 12 _ rfl
                have c13 := BY0 13 _ rfl
                rw [HK.out] at c0
                clear CA0 BY0
                go_wp2_with fail
                clear d0 d1 d2 d3 d4 d5 d6
                refine (HB.out _).mono ?_
                rintro e w3 ⟨rfl, hbc3⟩
                have CA3 : Hid (∀ (i : Nat) v, ([.bool false, .bool false, .bool false, .bool false, .bool false, .bool false, .bool false] : List Value)[i]? = some v → w3.cell? ⟨w1.heap.size, i, none⟩ = some v) := fun i v h => (hbc3.cell (p := ⟨w1.heap.size, i, none⟩) hs2).trans (CA.out i v h)
                have BY3 : Hid (BoxS w3 w.heap.size s) := BY.out.below hbc3 (by omega)
                have HBM3 : Hid (Below w.heap.size w w3) := HBM.out.trans (hbc3.mono (by omega))
                clear hbc3 c0 c1 c2 c3 c4 c5 c6 c7 c8 c9 c10 c11 c12 c13
                have CA0 := CA3.out
                have BY0 := BY3.out
                have d0 := CA0 0 _ rfl
                have d1 := CA0 1 _ rfl
                have d2 := CA0 2 _ rfl
                have d3 := CA0 3 _ rfl
                have d4 := CA0 4 _ rfl
                have d5 := CA0 5 _ rfl
                have d6 := CA0 6 _ rfl
                have c0 := BY0 0 _ rfl
                have c1 := BY0 1 _ rfl
                have c2 := BY0 2 _ rfl
                have c3 := BY0 3 _ rfl
                have c4 := BY0 4 _ rfl
                have c5 := BY0 5 _ rfl
                have c6 := BY0 6 _ rfl
                have c7 := BY0 7 _ rfl
                have c8 := BY0 8 _ rfl
                have c9 := BY0 9 _ rfl
                have c10 := BY0 10 _ rfl
                have c11 := BY0 11 _ rfl
                have c12 := BY0 12 _ rfl
                have c13 := BY0 13 _ rfl
                rw [HK.out] at c0
                clear CA0 BY0
                go_wp2_with fail
                go_ret
                exact ⟨rfl, HBM3.out⟩
set_option maxRecDepth 100000 in
set_option maxHeartbeats 4000000 in
theorem formed_1 (s : St) (w : World) (hk : s.kind = 1) : Calls Tryz.prog 57 #[s.val] w fun e w' => e = .returned (.bool ((s.n == 0) && zeroE s.b && ((s.body.length : Int) == 0) && ((s.els.length : Int) == 0) && ((s.cases.length : Int) == 0))) ∧ Below w.heap.size w w' := by
  have HC : Hid (∀ w, Calls Tryz.prog 56 #[.int .i64 1] w fun e w' => e = .returned (.agg #[.bool true, .bool false, .bool true, .bool false, .bool false, .bool false, .bool false]) ∧ Below w.heap.size w w') := fun w => counts_any 1 w
  have HA : Hid (∀ w, Calls Tryz.prog 79 #[s.a.val] w fun e w' => e = .returned (.bool (zeroE s.a)) ∧ Below w.heap.size w w') := fun w => rzero_any s.a w
  have HB : Hid (∀ w, Calls Tryz.prog 79 #[s.b.val] w fun e w' => e = .returned (.bool (zeroE s.b)) ∧ Below w.heap.size w w') := fun w => rzero_any s.b w
  have hb0 := (Below.refl _ w).alloc (Nat.le_refl _) (.cells #[.int .i64 s.kind, .string s.name, .int .i64 s.n, .int .i64 s.a.kind, .int .i64 s.a.n, .string s.a.name, .slice s.a.a s.a.args.length s.a.cap, .int .i64 s.b.kind, .int .i64 s.b.n, .string s.b.name, .slice s.b.a s.b.args.length s.b.cap, .slice s.ba s.body.length s.bc, .slice s.ea s.els.length s.ec, .slice s.ca s.cases.length s.cc] 44)
  have BXN : Hid (BoxS _ w.heap.size s) := boxS_new w s
  unfold St.val
  unfold Ex.val at HA HB
  rw [hk] at BXN hb0 ⊢
  have HK : Hid (s.kind = 1) := hk
  clear hk
  cases t1 : (s.n == 0)
  · go_enter Tryz.func57, Tryz.ntmps57
    go_wp2_with fail
    refine (HC.out _).mono ?_
    rintro e w1 ⟨rfl, hb1⟩
    have BX : Hid (BoxS w1 w.heap.size s) := BXN.out.below hb1 (by simp)
    have hbl : Below w.heap.size w w1 := hb0.trans (hb1.mono (by simp))
    have hs1 : w.heap.size < w1.heap.size := by have := hb1.size; simp at this; omega
    clear hb1
    have HBL : Hid (Below w.heap.size w (w1.alloc (.cells #[.bool true, .bool false, .bool true, .bool false, .bool false, .bool false, .bool false] 109))) := hbl.alloc (by omega) _
    have BX0 := BX.out
    have c0 := BX0 0 _ rfl
    have c1 := BX0 1 _ rfl
    have c2 := BX0 2 _ rfl
    have c3 := BX0 3 _ rfl
    have c4 := BX0 4 _ rfl
    have c5 := BX0 5 _ rfl
    have c6 := BX0 6 _ rfl
    have c7 := BX0 7 _ rfl
    have c8 := BX0 8 _ rfl
    have c9 := BX0 9 _ rfl
    have c10 := BX0 10 _ rfl
    have c11 := BX0 11 _ rfl
    have c12 := BX0 12 _ rfl
    have c13 := BX0 13 _ rfl
    rw [HK.out] at c0
    clear BX0
    go_upto_region 2 with fail
    simp only [List.append]
    go_wp2_with fail
    go_ret
    exact ⟨rfl, HBL.out⟩
  · cases t3 : zeroE s.b
    · rw [t3] at HB
      go_enter Tryz.func57, Tryz.ntmps57
      go_wp2_with fail
      refine (HC.out _).mono ?_
      rintro e w1 ⟨rfl, hb1⟩
      have BX : Hid (BoxS w1 w.heap.size s) := BXN.out.below hb1 (by simp)
      have hbl : Below w.heap.size w w1 := hb0.trans (hb1.mono (by simp))
      have hs1 : w.heap.size < w1.heap.size := by have := hb1.size; simp at this; omega
      clear hb1
      have HBL : Hid (Below w.heap.size w (w1.alloc (.cells #[.bool true, .bool false, .bool true, .bool false, .bool false, .bool false, .bool false] 109))) := hbl.alloc (by omega) _
      have BX0 := BX.out
      have c0 := BX0 0 _ rfl
      have c1 := BX0 1 _ rfl
      have c2 := BX0 2 _ rfl
      have c3 := BX0 3 _ rfl
      have c4 := BX0 4 _ rfl
      have c5 := BX0 5 _ rfl
      have c6 := BX0 6 _ rfl
      have c7 := BX0 7 _ rfl
      have c8 := BX0 8 _ rfl
      have c9 := BX0 9 _ rfl
      have c10 := BX0 10 _ rfl
      have c11 := BX0 11 _ rfl
      have c12 := BX0 12 _ rfl
      have c13 := BX0 13 _ rfl
      rw [HK.out] at c0
      clear BX0
      go_upto_region 2 with fail
      simp only [List.append]
      go_wp2_with fail
      refine (HB.out _).mono ?_
      rintro e w2 ⟨rfl, hbc2⟩
      have CA : Hid (∀ (i : Nat) v, ([.bool true, .bool false, .bool true, .bool false, .bool false, .bool false, .bool false] : List Value)[i]? = some v → w2.cell? ⟨w1.heap.size, i, none⟩ = some v) := fun i v h => (hbc2.cell (p := ⟨w1.heap.size, i, none⟩) (by simp)).trans (by rw [World.cell?_alloc_at _ _ _ _ rfl]; simpa using h)
      have BY : Hid (BoxS w2 w.heap.size s) := BoxS.below (fun i v h => (World.cell?_alloc_past _ _ _ hs1).trans (BX.out i v h)) hbc2 (by simp; omega)
      have HBM : Hid (Below w.heap.size w w2) := HBL.out.trans (hbc2.mono (by simp; omega))
      have hs2 : w1.heap.size < w2.heap.size := by have := hbc2.size; simp at this; omega
      clear hbc2 c0 c1 c2 c3 c4 c5 c6 c7 c8 c9 c10 c11 c12 c13
      have CA0 := CA.out
      have BY0 := BY.out
      have d0 := CA0 0 _ rfl
      have d1 := CA0 1 _ rfl
      have d2 := CA0 2 _ rfl
      have d3 := CA0 3 _ rfl
      have d4 := CA0 4 _ rfl
      have d5 := CA0 5 _ rfl
      have d6 := CA0 6 _ rfl
      have c0 := BY0 0 _ rfl
      have c1 := BY0 1 _ rfl
      have c2 := BY0 2 _ rfl
      have c3 := BY0 3 _ rfl
      have c4 := BY0 4 _ rfl
      have c5 := BY0 5 _ rfl
      have c6 := BY0 6 _ rfl
      have c7 := BY0 7 _ rfl
      have c8 := BY0 8 _ rfl
      have c9 := BY0 9 _ rfl
      have c10 := BY0 10 _ rfl
      have c11 := BY0 11 _ rfl
      have c12 := BY0 12 _ rfl
      have c13 := BY0 13 _ rfl
      rw [HK.out] at c0
      clear CA0 BY0
      go_wp2_with fail
      go_ret
      exact ⟨rfl, HBM.out⟩
    · rw [t3] at HB
      cases t4 : ((s.body.length : Int) == 0)
      · go_enter Tryz.func57, Tryz.ntmps57
        go_wp2_with fail
        refine (HC.out _).mono ?_
        rintro e w1 ⟨rfl, hb1⟩
        have BX : Hid (BoxS w1 w.heap.size s) := BXN.out.below hb1 (by simp)
        have hbl : Below w.heap.size w w1 := hb0.trans (hb1.mono (by simp))
        have hs1 : w.heap.size < w1.heap.size := by have := hb1.size; simp at this; omega
        clear hb1
        have HBL : Hid (Below w.heap.size w (w1.alloc (.cells #[.bool true, .bool false, .bool true, .bool false, .bool false, .bool false, .bool false] 109))) := hbl.alloc (by omega) _
        have BX0 := BX.out
        have c0 := BX0 0 _ rfl
        have c1 := BX0 1 _ rfl
        have c2 := BX0 2 _ rfl
        have c3 := BX0 3 _ rfl
        have c4 := BX0 4 _ rfl
        have c5 := BX0 5 _ rfl
        have c6 := BX0 6 _ rfl
        have c7 := BX0 7 _ rfl
        have c8 := BX0 8 _ rfl
        have c9 := BX0 9 _ rfl
        have c10 := BX0 10 _ rfl
        have c11 := BX0 11 _ rfl
        have c12 := BX0 12 _ rfl
        have c13 := BX0 13 _ rfl
        rw [HK.out] at c0
        clear BX0
        go_upto_region 2 with fail
        simp only [List.append]
        go_wp2_with fail
        refine (HB.out _).mono ?_
        rintro e w2 ⟨rfl, hbc2⟩
        have CA : Hid (∀ (i : Nat) v, ([.bool true, .bool false, .bool true, .bool false, .bool false, .bool false, .bool false] : List Value)[i]? = some v → w2.cell? ⟨w1.heap.size, i, none⟩ = some v) := fun i v h => (hbc2.cell (p := ⟨w1.heap.size, i, none⟩) (by simp)).trans (by rw [World.cell?_alloc_at _ _ _ _ rfl]; simpa using h)
        have BY : Hid (BoxS w2 w.heap.size s) := BoxS.below (fun i v h => (World.cell?_alloc_past _ _ _ hs1).trans (BX.out i v h)) hbc2 (by simp; omega)
        have HBM : Hid (Below w.heap.size w w2) := HBL.out.trans (hbc2.mono (by simp; omega))
        have hs2 : w1.heap.size < w2.heap.size := by have := hbc2.size; simp at this; omega
        clear hbc2 c0 c1 c2 c3 c4 c5 c6 c7 c8 c9 c10 c11 c12 c13
        have CA0 := CA.out
        have BY0 := BY.out
        have d0 := CA0 0 _ rfl
        have d1 := CA0 1 _ rfl
        have d2 := CA0 2 _ rfl
        have d3 := CA0 3 _ rfl
        have d4 := CA0 4 _ rfl
        have d5 := CA0 5 _ rfl
        have d6 := CA0 6 _ rfl
        have c0 := BY0 0 _ rfl
        have c1 := BY0 1 _ rfl
        have c2 := BY0 2 _ rfl
        have c3 := BY0 3 _ rfl
        have c4 := BY0 4 _ rfl
        have c5 := BY0 5 _ rfl
        have c6 := BY0 6 _ rfl
        have c7 := BY0 7 _ rfl
        have c8 := BY0 8 _ rfl
        have c9 := BY0 9 _ rfl
        have c10 := BY0 10 _ rfl
        have c11 := BY0 11 _ rfl
        have c12 := BY0 12 _ rfl
        have c13 := BY0 13 _ rfl
        rw [HK.out] at c0
        clear CA0 BY0
        go_wp2_with fail
        go_ret
        exact ⟨rfl, HBM.out⟩
      · cases t5 : ((s.els.length : Int) == 0)
        · go_enter Tryz.func57, Tryz.ntmps57
          go_wp2_with fail
          refine (HC.out _).mono ?_
          rintro e w1 ⟨rfl, hb1⟩
          have BX : Hid (BoxS w1 w.heap.size s) := BXN.out.below hb1 (by simp)
          have hbl : Below w.heap.size w w1 := hb0.trans (hb1.mono (by simp))
          have hs1 : w.heap.size < w1.heap.size := by have := hb1.size; simp at this; omega
          clear hb1
          have HBL : Hid (Below w.heap.size w (w1.alloc (.cells #[.bool true, .bool false, .bool true, .bool false, .bool false, .bool false, .bool false] 109))) := hbl.alloc (by omega) _
          have BX0 := BX.out
          have c0 := BX0 0 _ rfl
          have c1 := BX0 1 _ rfl
          have c2 := BX0 2 _ rfl
          have c3 := BX0 3 _ rfl
          have c4 := BX0 4 _ rfl
          have c5 := BX0 5 _ rfl
          have c6 := BX0 6 _ rfl
          have c7 := BX0 7 _ rfl
          have c8 := BX0 8 _ rfl
          have c9 := BX0 9 _ rfl
          have c10 := BX0 10 _ rfl
          have c11 := BX0 11 _ rfl
          have c12 := BX0 12 _ rfl
          have c13 := BX0 13 _ rfl
          rw [HK.out] at c0
          clear BX0
          go_upto_region 2 with fail
          simp only [List.append]
          go_wp2_with fail
          refine (HB.out _).mono ?_
          rintro e w2 ⟨rfl, hbc2⟩
          have CA : Hid (∀ (i : Nat) v, ([.bool true, .bool false, .bool true, .bool false, .bool false, .bool false, .bool false] : List Value)[i]? = some v → w2.cell? ⟨w1.heap.size, i, none⟩ = some v) := fun i v h => (hbc2.cell (p := ⟨w1.heap.size, i, none⟩) (by simp)).trans (by rw [World.cell?_alloc_at _ _ _ _ rfl]; simpa using h)
          have BY : Hid (BoxS w2 w.heap.size s) := BoxS.below (fun i v h => (World.cell?_alloc_past _ _ _ hs1).trans (BX.out i v h)) hbc2 (by simp; omega)
          have HBM : Hid (Below w.heap.size w w2) := HBL.out.trans (hbc2.mono (by simp; omega))
          have hs2 : w1.heap.size < w2.heap.size := by have := hbc2.size; simp at this; omega
          clear hbc2 c0 c1 c2 c3 c4 c5 c6 c7 c8 c9 c10 c11 c12 c13
          have CA0 := CA.out
          have BY0 := BY.out
          have d0 := CA0 0 _ rfl
          have d1 := CA0 1 _ rfl
          have d2 := CA0 2 _ rfl
          have d3 := CA0 3 _ rfl
          have d4 := CA0 4 _ rfl
          have d5 := CA0 5 _ rfl
          have d6 := CA0 6 _ rfl
          have c0 := BY0 0 _ rfl
          have c1 := BY0 1 _ rfl
          have c2 := BY0 2 _ rfl
          have c3 := BY0 3 _ rfl
          have c4 := BY0 4 _ rfl
          have c5 := BY0 5 _ rfl
          have c6 := BY0 6 _ rfl
          have c7 := BY0 7 _ rfl
          have c8 := BY0 8 _ rfl
          have c9 := BY0 9 _ rfl
          have c10 := BY0 10 _ rfl
          have c11 := BY0 11 _ rfl
          have c12 := BY0 12 _ rfl
          have c13 := BY0 13 _ rfl
          rw [HK.out] at c0
          clear CA0 BY0
          go_wp2_with fail
          go_ret
          exact ⟨rfl, HBM.out⟩
        · cases t6 : ((s.cases.length : Int) == 0)
          · go_enter Tryz.func57, Tryz.ntmps57
            go_wp2_with fail
            refine (HC.out _).mono ?_
            rintro e w1 ⟨rfl, hb1⟩
            have BX : Hid (BoxS w1 w.heap.size s) := BXN.out.below hb1 (by simp)
            have hbl : Below w.heap.size w w1 := hb0.trans (hb1.mono (by simp))
            have hs1 : w.heap.size < w1.heap.size := by have := hb1.size; simp at this; omega
            clear hb1
            have HBL : Hid (Below w.heap.size w (w1.alloc (.cells #[.bool true, .bool false, .bool true, .bool false, .bool false, .bool false, .bool false] 109))) := hbl.alloc (by omega) _
            have BX0 := BX.out
            have c0 := BX0 0 _ rfl
            have c1 := BX0 1 _ rfl
            have c2 := BX0 2 _ rfl
            have c3 := BX0 3 _ rfl
            have c4 := BX0 4 _ rfl
            have c5 := BX0 5 _ rfl
            have c6 := BX0 6 _ rfl
            have c7 := BX0 7 _ rfl
            have c8 := BX0 8 _ rfl
            have c9 := BX0 9 _ rfl
            have c10 := BX0 10 _ rfl
            have c11 := BX0 11 _ rfl
            have c12 := BX0 12 _ rfl
            have c13 := BX0 13 _ rfl
            rw [HK.out] at c0
            clear BX0
            go_upto_region 2 with fail
            simp only [List.append]
            go_wp2_with fail
            refine (HB.out _).mono ?_
            rintro e w2 ⟨rfl, hbc2⟩
            have CA : Hid (∀ (i : Nat) v, ([.bool true, .bool false, .bool true, .bool false, .bool false, .bool false, .bool false] : List Value)[i]? = some v → w2.cell? ⟨w1.heap.size, i, none⟩ = some v) := fun i v h => (hbc2.cell (p := ⟨w1.heap.size, i, none⟩) (by simp)).trans (by rw [World.cell?_alloc_at _ _ _ _ rfl]; simpa using h)
            have BY : Hid (BoxS w2 w.heap.size s) := BoxS.below (fun i v h => (World.cell?_alloc_past _ _ _ hs1).trans (BX.out i v h)) hbc2 (by simp; omega)
            have HBM : Hid (Below w.heap.size w w2) := HBL.out.trans (hbc2.mono (by simp; omega))
            have hs2 : w1.heap.size < w2.heap.size := by have := hbc2.size; simp at this; omega
            clear hbc2 c0 c1 c2 c3 c4 c5 c6 c7 c8 c9 c10 c11 c12 c13
            have CA0 := CA.out
            have BY0 := BY.out
            have d0 := CA0 0 _ rfl
            have d1 := CA0 1 _ rfl
            have d2 := CA0 2 _ rfl
            have d3 := CA0 3 _ rfl
            have d4 := CA0 4 _ rfl
            have d5 := CA0 5 _ rfl
            have d6 := CA0 6 _ rfl
            have c0 := BY0 0 _ rfl
            have c1 := BY0 1 _ rfl
            have c2 := BY0 2 _ rfl
            have c3 := BY0 3 _ rfl
            have c4 := BY0 4 _ rfl
            have c5 := BY0 5 _ rfl
            have c6 := BY0 6 _ rfl
            have c7 := BY0 7 _ rfl
            have c8 := BY0 8 _ rfl
            have c9 := BY0 9 _ rfl
            have c10 := BY0 10 _ rfl
            have c11 := BY0 11 _ rfl
            have c12 := BY0 12 _ rfl
            have c13 := BY0 13 _ rfl
            rw [HK.out] at c0
            clear CA0 BY0
            go_wp2_with fail
            go_ret
            exact ⟨rfl, HBM.out⟩
          · go_enter Tryz.func57, Tryz.ntmps57
            go_wp2_with fail
            refine (HC.out _).mono ?_
            rintro e w1 ⟨rfl, hb1⟩
            have BX : Hid (BoxS w1 w.heap.size s) := BXN.out.below hb1 (by simp)
            have hbl : Below w.heap.size w w1 := hb0.trans (hb1.mono (by simp))
            have hs1 : w.heap.size < w1.heap.size := by have := hb1.size; simp at this; omega
            clear hb1
            have HBL : Hid (Below w.heap.size w (w1.alloc (.cells #[.bool true, .bool false, .bool true, .bool false, .bool false, .bool false, .bool false] 109))) := hbl.alloc (by omega) _
            have BX0 := BX.out
            have c0 := BX0 0 _ rfl
            have c1 := BX0 1 _ rfl
            have c2 := BX0 2 _ rfl
            have c3 := BX0 3 _ rfl
            have c4 := BX0 4 _ rfl
            have c5 := BX0 5 _ rfl
            have c6 := BX0 6 _ rfl
            have c7 := BX0 7 _ rfl
            have c8 := BX0 8 _ rfl
            have c9 := BX0 9 _ rfl
            have c10 := BX0 10 _ rfl
            have c11 := BX0 11 _ rfl
            have c12 := BX0 12 _ rfl
            have c13 := BX0 13 _ rfl
            rw [HK.out] at c0
            clear BX0
            go_upto_region 2 with fail
            simp only [List.append]
            go_wp2_with fail
            refine (HB.out _).mono ?_
            rintro e w2 ⟨rfl, hbc2⟩
            have CA : Hid (∀ (i : Nat) v, ([.bool true, .bool false, .bool true, .bool false, .bool false, .bool false, .bool false] : List Value)[i]? = some v → w2.cell? ⟨w1.heap.size, i, none⟩ = some v) := fun i v h => (hbc2.cell (p := ⟨w1.heap.size, i, none⟩) (by simp)).trans (by rw [World.cell?_alloc_at _ _ _ _ rfl]; simpa using h)
            have BY : Hid (BoxS w2 w.heap.size s) := BoxS.below (fun i v h => (World.cell?_alloc_past _ _ _ hs1).trans (BX.out i v h)) hbc2 (by simp; omega)
            have HBM : Hid (Below w.heap.size w w2) := HBL.out.trans (hbc2.mono (by simp; omega))
            have hs2 : w1.heap.size < w2.heap.size := by have := hbc2.size; simp at this; omega
            clear hbc2 c0 c1 c2 c3 c4 c5 c6 c7 c8 c9 c10 c11 c12 c13
            have CA0 := CA.out
            have BY0 := BY.out
            have d0 := CA0 0 _ rfl
            have d1 := CA0 1 _ rfl
            have d2 := CA0 2 _ rfl
            have d3 := CA0 3 _ rfl
            have d4 := CA0 4 _ rfl
            have d5 := CA0 5 _ rfl
            have d6 := CA0 6 _ rfl
            have c0 := BY0 0 _ rfl
            have c1 := BY0 1 _ rfl
            have c2 := BY0 2 _ rfl
            have c3 := BY0 3 _ rfl
            have c4 := BY0 4 _ rfl
            have c5 := BY0 5 _ rfl
            have c6 := BY0 6 _ rfl
            have c7 := BY0 7 _ rfl
            have c8 := BY0 8 _ rfl
            have c9 := BY0 9 _ rfl
            have c10 := BY0 10 _ rfl
            have c11 := BY0 11 _ rfl
            have c12 := BY0 12 _ rfl
            have c13 := BY0 13 _ rfl
            rw [HK.out] at c0
            clear CA0 BY0
            go_wp2_with fail
            go_ret
            exact ⟨rfl, HBM.out⟩
set_option maxRecDepth 100000 in
set_option maxHeartbeats 4000000 in
theorem formed_5 (s : St) (w : World) (hk : s.kind = 5) : Calls Tryz.prog 57 #[s.val] w fun e w' => e = .returned (.bool ((s.name.toList == []) && (s.n == 0) && zeroE s.b && ((s.cases.length : Int) == 0))) ∧ Below w.heap.size w w' := by
  have HC : Hid (∀ w, Calls Tryz.prog 56 #[.int .i64 5] w fun e w' => e = .returned (.agg #[.bool false, .bool false, .bool true, .bool false, .bool true, .bool true, .bool false]) ∧ Below w.heap.size w w') := fun w => counts_any 5 w
  have HA : Hid (∀ w, Calls Tryz.prog 79 #[s.a.val] w fun e w' => e = .returned (.bool (zeroE s.a)) ∧ Below w.heap.size w w') := fun w => rzero_any s.a w
  have HB : Hid (∀ w, Calls Tryz.prog 79 #[s.b.val] w fun e w' => e = .returned (.bool (zeroE s.b)) ∧ Below w.heap.size w w') := fun w => rzero_any s.b w
  have hb0 := (Below.refl _ w).alloc (Nat.le_refl _) (.cells #[.int .i64 s.kind, .string s.name, .int .i64 s.n, .int .i64 s.a.kind, .int .i64 s.a.n, .string s.a.name, .slice s.a.a s.a.args.length s.a.cap, .int .i64 s.b.kind, .int .i64 s.b.n, .string s.b.name, .slice s.b.a s.b.args.length s.b.cap, .slice s.ba s.body.length s.bc, .slice s.ea s.els.length s.ec, .slice s.ca s.cases.length s.cc] 44)
  have BXN : Hid (BoxS _ w.heap.size s) := boxS_new w s
  unfold St.val
  unfold Ex.val at HA HB
  rw [hk] at BXN hb0 ⊢
  have HK : Hid (s.kind = 5) := hk
  clear hk
  cases t0 : (s.name.toList == [])
  · go_enter Tryz.func57, Tryz.ntmps57
    go_wp2_with fail
    refine (HC.out _).mono ?_
    rintro e w1 ⟨rfl, hb1⟩
    have BX : Hid (BoxS w1 w.heap.size s) := BXN.out.below hb1 (by simp)
    have hbl : Below w.heap.size w w1 := hb0.trans (hb1.mono (by simp))
    have hs1 : w.heap.size < w1.heap.size := by have := hb1.size; simp at this; omega
    clear hb1
    have HBL : Hid (Below w.heap.size w (w1.alloc (.cells #[.bool false, .bool false, .bool true, .bool false, .bool true, .bool true, .bool false] 109))) := hbl.alloc (by omega) _
    have BX0 := BX.out
    have c0 := BX0 0 _ rfl
    have c1 := BX0 1 _ rfl
    have c2 := BX0 2 _ rfl
    have c3 := BX0 3 _ rfl
    have c4 := BX0 4 _ rfl
    have c5 := BX0 5 _ rfl
    have c6 := BX0 6 _ rfl
    have c7 := BX0 7 _ rfl
    have c8 := BX0 8 _ rfl
    have c9 := BX0 9 _ rfl
    have c10 := BX0 10 _ rfl
    have c11 := BX0 11 _ rfl
    have c12 := BX0 12 _ rfl
    have c13 := BX0 13 _ rfl
    rw [HK.out] at c0
    clear BX0
    go_upto_region 2 with fail
    simp only [List.append]
    go_wp2_with fail
    go_ret
    exact ⟨rfl, HBL.out⟩
  · cases t1 : (s.n == 0)
    · go_enter Tryz.func57, Tryz.ntmps57
      go_wp2_with fail
      refine (HC.out _).mono ?_
      rintro e w1 ⟨rfl, hb1⟩
      have BX : Hid (BoxS w1 w.heap.size s) := BXN.out.below hb1 (by simp)
      have hbl : Below w.heap.size w w1 := hb0.trans (hb1.mono (by simp))
      have hs1 : w.heap.size < w1.heap.size := by have := hb1.size; simp at this; omega
      clear hb1
      have HBL : Hid (Below w.heap.size w (w1.alloc (.cells #[.bool false, .bool false, .bool true, .bool false, .bool true, .bool true, .bool false] 109))) := hbl.alloc (by omega) _
      have BX0 := BX.out
      have c0 := BX0 0 _ rfl
      have c1 := BX0 1 _ rfl
      have c2 := BX0 2 _ rfl
      have c3 := BX0 3 _ rfl
      have c4 := BX0 4 _ rfl
      have c5 := BX0 5 _ rfl
      have c6 := BX0 6 _ rfl
      have c7 := BX0 7 _ rfl
      have c8 := BX0 8 _ rfl
      have c9 := BX0 9 _ rfl
      have c10 := BX0 10 _ rfl
      have c11 := BX0 11 _ rfl
      have c12 := BX0 12 _ rfl
      have c13 := BX0 13 _ rfl
      rw [HK.out] at c0
      clear BX0
      go_upto_region 2 with fail
      simp only [List.append]
      go_wp2_with fail
      go_ret
      exact ⟨rfl, HBL.out⟩
    · cases t3 : zeroE s.b
      · rw [t3] at HB
        go_enter Tryz.func57, Tryz.ntmps57
        go_wp2_with fail
        refine (HC.out _).mono ?_
        rintro e w1 ⟨rfl, hb1⟩
        have BX : Hid (BoxS w1 w.heap.size s) := BXN.out.below hb1 (by simp)
        have hbl : Below w.heap.size w w1 := hb0.trans (hb1.mono (by simp))
        have hs1 : w.heap.size < w1.heap.size := by have := hb1.size; simp at this; omega
        clear hb1
        have HBL : Hid (Below w.heap.size w (w1.alloc (.cells #[.bool false, .bool false, .bool true, .bool false, .bool true, .bool true, .bool false] 109))) := hbl.alloc (by omega) _
        have BX0 := BX.out
        have c0 := BX0 0 _ rfl
        have c1 := BX0 1 _ rfl
        have c2 := BX0 2 _ rfl
        have c3 := BX0 3 _ rfl
        have c4 := BX0 4 _ rfl
        have c5 := BX0 5 _ rfl
        have c6 := BX0 6 _ rfl
        have c7 := BX0 7 _ rfl
        have c8 := BX0 8 _ rfl
        have c9 := BX0 9 _ rfl
        have c10 := BX0 10 _ rfl
        have c11 := BX0 11 _ rfl
        have c12 := BX0 12 _ rfl
        have c13 := BX0 13 _ rfl
        rw [HK.out] at c0
        clear BX0
        go_upto_region 2 with fail
        simp only [List.append]
        go_wp2_with fail
        refine (HB.out _).mono ?_
        rintro e w2 ⟨rfl, hbc2⟩
        have CA : Hid (∀ (i : Nat) v, ([.bool false, .bool false, .bool true, .bool false, .bool true, .bool true, .bool false] : List Value)[i]? = some v → w2.cell? ⟨w1.heap.size, i, none⟩ = some v) := fun i v h => (hbc2.cell (p := ⟨w1.heap.size, i, none⟩) (by simp)).trans (by rw [World.cell?_alloc_at _ _ _ _ rfl]; simpa using h)
        have BY : Hid (BoxS w2 w.heap.size s) := BoxS.below (fun i v h => (World.cell?_alloc_past _ _ _ hs1).trans (BX.out i v h)) hbc2 (by simp; omega)
        have HBM : Hid (Below w.heap.size w w2) := HBL.out.trans (hbc2.mono (by simp; omega))
        have hs2 : w1.heap.size < w2.heap.size := by have := hbc2.size; simp at this; omega
        clear hbc2 c0 c1 c2 c3 c4 c5 c6 c7 c8 c9 c10 c11 c12 c13
        have CA0 := CA.out
        have BY0 := BY.out
        have d0 := CA0 0 _ rfl
        have d1 := CA0 1 _ rfl
        have d2 := CA0 2 _ rfl
        have d3 := CA0 3 _ rfl
        have d4 := CA0 4 _ rfl
        have d5 := CA0 5 _ rfl
        have d6 := CA0 6 _ rfl
        have c0 := BY0 0 _ rfl
        have c1 := BY0 1 _ rfl
        have c2 := BY0 2 _ rfl
        have c3 := BY0 3 _ rfl
        have c4 := BY0 4 _ rfl
        have c5 := BY0 5 _ rfl
        have c6 := BY0 6 _ rfl
        have c7 := BY0 7 _ rfl
        have c8 := BY0 8 _ rfl
        have c9 := BY0 9 _ rfl
        have c10 := BY0 10 _ rfl
        have c11 := BY0 11 _ rfl
        have c12 := BY0 12 _ rfl
        have c13 := BY0 13 _ rfl
        rw [HK.out] at c0
        clear CA0 BY0
        go_wp2_with fail
        go_ret
        exact ⟨rfl, HBM.out⟩
      · rw [t3] at HB
        cases t6 : ((s.cases.length : Int) == 0)
        · go_enter Tryz.func57, Tryz.ntmps57
          go_wp2_with fail
          refine (HC.out _).mono ?_
          rintro e w1 ⟨rfl, hb1⟩
          have BX : Hid (BoxS w1 w.heap.size s) := BXN.out.below hb1 (by simp)
          have hbl : Below w.heap.size w w1 := hb0.trans (hb1.mono (by simp))
          have hs1 : w.heap.size < w1.heap.size := by have := hb1.size; simp at this; omega
          clear hb1
          have HBL : Hid (Below w.heap.size w (w1.alloc (.cells #[.bool false, .bool false, .bool true, .bool false, .bool true, .bool true, .bool false] 109))) := hbl.alloc (by omega) _
          have BX0 := BX.out
          have c0 := BX0 0 _ rfl
          have c1 := BX0 1 _ rfl
          have c2 := BX0 2 _ rfl
          have c3 := BX0 3 _ rfl
          have c4 := BX0 4 _ rfl
          have c5 := BX0 5 _ rfl
          have c6 := BX0 6 _ rfl
          have c7 := BX0 7 _ rfl
          have c8 := BX0 8 _ rfl
          have c9 := BX0 9 _ rfl
          have c10 := BX0 10 _ rfl
          have c11 := BX0 11 _ rfl
          have c12 := BX0 12 _ rfl
          have c13 := BX0 13 _ rfl
          rw [HK.out] at c0
          clear BX0
          go_upto_region 2 with fail
          simp only [List.append]
          go_wp2_with fail
          refine (HB.out _).mono ?_
          rintro e w2 ⟨rfl, hbc2⟩
          have CA : Hid (∀ (i : Nat) v, ([.bool false, .bool false, .bool true, .bool false, .bool true, .bool true, .bool false] : List Value)[i]? = some v → w2.cell? ⟨w1.heap.size, i, none⟩ = some v) := fun i v h => (hbc2.cell (p := ⟨w1.heap.size, i, none⟩) (by simp)).trans (by rw [World.cell?_alloc_at _ _ _ _ rfl]; simpa using h)
          have BY : Hid (BoxS w2 w.heap.size s) := BoxS.below (fun i v h => (World.cell?_alloc_past _ _ _ hs1).trans (BX.out i v h)) hbc2 (by simp; omega)
          have HBM : Hid (Below w.heap.size w w2) := HBL.out.trans (hbc2.mono (by simp; omega))
          have hs2 : w1.heap.size < w2.heap.size := by have := hbc2.size; simp at this; omega
          clear hbc2 c0 c1 c2 c3 c4 c5 c6 c7 c8 c9 c10 c11 c12 c13
          have CA0 := CA.out
          have BY0 := BY.out
          have d0 := CA0 0 _ rfl
          have d1 := CA0 1 _ rfl
          have d2 := CA0 2 _ rfl
          have d3 := CA0 3 _ rfl
          have d4 := CA0 4 _ rfl
          have d5 := CA0 5 _ rfl
          have d6 := CA0 6 _ rfl
          have c0 := BY0 0 _ rfl
          have c1 := BY0 1 _ rfl
          have c2 := BY0 2 _ rfl
          have c3 := BY0 3 _ rfl
          have c4 := BY0 4 _ rfl
          have c5 := BY0 5 _ rfl
          have c6 := BY0 6 _ rfl
          have c7 := BY0 7 _ rfl
          have c8 := BY0 8 _ rfl
          have c9 := BY0 9 _ rfl
          have c10 := BY0 10 _ rfl
          have c11 := BY0 11 _ rfl
          have c12 := BY0 12 _ rfl
          have c13 := BY0 13 _ rfl
          rw [HK.out] at c0
          clear CA0 BY0
          go_wp2_with fail
          go_ret
          exact ⟨rfl, HBM.out⟩
        · go_enter Tryz.func57, Tryz.ntmps57
          go_wp2_with fail
          refine (HC.out _).mono ?_
          rintro e w1 ⟨rfl, hb1⟩
          have BX : Hid (BoxS w1 w.heap.size s) := BXN.out.below hb1 (by simp)
          have hbl : Below w.heap.size w w1 := hb0.trans (hb1.mono (by simp))
          have hs1 : w.heap.size < w1.heap.size := by have := hb1.size; simp at this; omega
          clear hb1
          have HBL : Hid (Below w.heap.size w (w1.alloc (.cells #[.bool false, .bool false, .bool true, .bool false, .bool true, .bool true, .bool false] 109))) := hbl.alloc (by omega) _
          have BX0 := BX.out
          have c0 := BX0 0 _ rfl
          have c1 := BX0 1 _ rfl
          have c2 := BX0 2 _ rfl
          have c3 := BX0 3 _ rfl
          have c4 := BX0 4 _ rfl
          have c5 := BX0 5 _ rfl
          have c6 := BX0 6 _ rfl
          have c7 := BX0 7 _ rfl
          have c8 := BX0 8 _ rfl
          have c9 := BX0 9 _ rfl
          have c10 := BX0 10 _ rfl
          have c11 := BX0 11 _ rfl
          have c12 := BX0 12 _ rfl
          have c13 := BX0 13 _ rfl
          rw [HK.out] at c0
          clear BX0
          go_upto_region 2 with fail
          simp only [List.append]
          go_wp2_with fail
          refine (HB.out _).mono ?_
          rintro e w2 ⟨rfl, hbc2⟩
          have CA : Hid (∀ (i : Nat) v, ([.bool false, .bool false, .bool true, .bool false, .bool true, .bool true, .bool false] : List Value)[i]? = some v → w2.cell? ⟨w1.heap.size, i, none⟩ = some v) := fun i v h => (hbc2.cell (p := ⟨w1.heap.size, i, none⟩) (by simp)).trans (by rw [World.cell?_alloc_at _ _ _ _ rfl]; simpa using h)
          have BY : Hid (BoxS w2 w.heap.size s) := BoxS.below (fun i v h => (World.cell?_alloc_past _ _ _ hs1).trans (BX.out i v h)) hbc2 (by simp; omega)
          have HBM : Hid (Below w.heap.size w w2) := HBL.out.trans (hbc2.mono (by simp; omega))
          have hs2 : w1.heap.size < w2.heap.size := by have := hbc2.size; simp at this; omega
          clear hbc2 c0 c1 c2 c3 c4 c5 c6 c7 c8 c9 c10 c11 c12 c13
          have CA0 := CA.out
          have BY0 := BY.out
          have d0 := CA0 0 _ rfl
          have d1 := CA0 1 _ rfl
          have d2 := CA0 2 _ rfl
          have d3 := CA0 3 _ rfl
          have d4 := CA0 4 _ rfl
          have d5 := CA0 5 _ rfl
          have d6 := CA0 6 _ rfl
          have c0 := BY0 0 _ rfl
          have c1 := BY0 1 _ rfl
          have c2 := BY0 2 _ rfl
          have c3 := BY0 3 _ rfl
          have c4 := BY0 4 _ rfl
          have c5 := BY0 5 _ rfl
          have c6 := BY0 6 _ rfl
          have c7 := BY0 7 _ rfl
          have c8 := BY0 8 _ rfl
          have c9 := BY0 9 _ rfl
          have c10 := BY0 10 _ rfl
          have c11 := BY0 11 _ rfl
          have c12 := BY0 12 _ rfl
          have c13 := BY0 13 _ rfl
          rw [HK.out] at c0
          clear CA0 BY0
          go_wp2_with fail
          go_ret
          exact ⟨rfl, HBM.out⟩
end Go.Proofs.YtkkcgkpbbngloaaGreatDoor
