/- The document's own head of a function. -/
import Derived.Test.YtbpemackmadhgaaGreatDoorPart6
import Derived.Test.YtbpemackmadhgaaGreatDoorPart5
import Derived.Deep.CutBlock
namespace Go.Proofs.YtbpemackmadhgaaGreatDoor
open Go.RowKit Go.Sort

theorem tb_nil (A : ByteArray) : A ++ tb [] = A := by apply ByteArray.ext; simp
theorem comB_at (l : List (List UInt8)) (j : Nat) (h : j < l.length) : tb (comB (l.take (j + 1))) = elT j (tb l[j]) (tb (comB (l.take j)) ++ tb [44, 32] ++ tb l[j]) := by
  rw [comB_take l j h]
  unfold elT
  split
  · rfl
  · rw [tb_app, tb_app]
set_option maxRecDepth 100000 in
set_option maxHeartbeats 2000000 in
theorem rtop_any (f : Fu) (w : World) (hin : f.In w) (hn : f.name.size ≤ 16) (hpn : ∀ p ∈ f.params, p.name.size ≤ 16) (hp8 : f.params.length ≤ 8) (hlc : (comB (f.params.map paB)).length ≤ 1000000) :
    Calls Tryz.prog 22 #[f.val] w fun e w' => e = .returned (.string (tb ([102, 110, 32] ++ f.name.data.toList ++ [40] ++ comB (f.params.map paB) ++ [41, 32, 123]))) ∧ Below w.heap.size w w' := by
  obtain ⟨_, hl, hc, _, hrow, hok, _⟩ := hin
  have HR : Hid (RowIn w f.pa 3 (List.map Pa.cells f.params)) := hrow
  have HNM : Hid (∀ n, I64 n → ∀ w, Calls Tryz.prog 20 #[.int .i64 n] w fun e w' => e = .returned (.string (tb (Lib.itoa n))) ∧ Below w.heap.size w w') := fun n hn w => rnum_any n w hn
  have HOK : Hid (∀ p ∈ f.params, p.Ok) := hok
  have HPN : Hid (∀ p ∈ f.params, p.name.size ≤ 16) := hpn
  have HL : Hid (∀ j, (tb (comB ((f.params.map paB).take j))).size ≤ 1000000) := fun j => by rw [tb_size]; exact Nat.le_trans (comB_le _ j) hlc
  have HRES : Hid (tb ([102, 110, 32] ++ f.name.data.toList ++ [40] ++ comB (f.params.map paB) ++ [41, 32, 123]) = tb [102, 110, 32] ++ f.name ++ tb [40] ++ tb (comB (f.params.map paB)) ++ tb [41, 32, 123]) := by
    show _ = _; simp only [← tb_app, tb_of]
  rw [HRES.out]
  have hb1 := (Below.refl _ w).alloc (Nat.le_refl _) (.cells #[.string f.name, .slice f.pa f.params.length f.pc, .slice f.ba f.body.length f.bc] 45)
  have hbx := boxL_new w #[.string f.name, .slice f.pa f.params.length f.pc, .slice f.ba f.body.length f.bc] 45
  clear hrow hok hpn hlc HRES
  unfold Fu.val
  go_enter Tryz.func22, Tryz.ntmps22
  go_upto_region 1 with fail
  generalize w.alloc (.cells #[.string f.name, .slice f.pa f.params.length f.pc, .slice f.ba f.body.length f.bc] 45) = W1 at hb1 hbx ⊢
  have hs1 : w.heap.size < W1.heap.size := by have := lt_of_cell (hbx 0 _ rfl); exact this
  have HBX : Hid (BoxL W1 w.heap.size [.string f.name, .slice f.pa f.params.length f.pc, .slice f.ba f.body.length f.bc]) := hbx
  have c0 := hbx 0 _ rfl
  have c1 := hbx 1 _ rfl
  clear hbx
  have hHs : (tb [102, 110, 32] ++ f.name ++ tb [40]).size ≤ 100 := by
    rw [ByteArray.size_append, ByteArray.size_append, tb_size [102, 110, 32], tb_size [40]]; simp only [List.length_cons, List.length_nil]; omega
  go_upto_region 3 with fail
  have HH : ∃ Hh, Hid (tb [102, 110, 32] ++ f.name ++ tb [40] = Hh) := ⟨_, rfl⟩
  obtain ⟨Hh, HH⟩ := HH
  rw [HH.out] at hHs
  go_loopw [3, 4] (fun t3 t4 wr => ∃ (j : Nat), j ≤ f.params.length ∧ t3 = .string (Hh ++ tb (comB ((f.params.map paB).take j))) ∧ t4 = .int .i64 j ∧ Below w.heap.size w wr ∧ w.heap.size < wr.heap.size ∧ BoxL wr w.heap.size [.string f.name, .slice f.pa f.params.length f.pc, .slice f.ba f.body.length f.bc]) (fun _ t4 _ => f.params.length - (intOf t4).toNat)
  case atStart =>
    refine ⟨0, Nat.zero_le _, ?_, rfl, hb1, hs1, HBX.out⟩
    rw [← HH.out]; simp only [List.take_zero, comB]
    exact congrArg Value.string (tb_nil _).symm
  case round =>
    obtain ⟨j, hj, rfl, rfl, hb, hsr, hbx⟩ := hrel
    have HBY : Hid (BoxL wr w.heap.size [.string f.name, .slice f.pa f.params.length f.pc, .slice f.ba f.body.length f.bc]) := hbx
    have c1' := hbx 1 _ rfl
    clear hbx c0 c1
    have c1 := c1'
    clear c1'
    have hsz := HL.out j
    by_cases hlt : j < f.params.length
    · have hli : (j : Int) < (f.params.length : Int) := by omega
      obtain ⟨g, o, hpa, d0, d1, d2⟩ := rowP_at (HR.out.below hb) hlt
      rw [hpa] at c1
      clear hpa
      have hm := List.getElem_mem hlt
      have hok := HOK.out _ hm
      have KA : Hid (∀ w, Calls Tryz.prog 20 #[.int .i64 f.params[j].lo] w fun e w' => e = .returned (.string (tb (Lib.itoa f.params[j].lo))) ∧ Below w.heap.size w w') := HNM.out _ hok.2.1
      have KB : Hid (∀ w, Calls Tryz.prog 20 #[.int .i64 f.params[j].hi] w fun e w' => e = .returned (.string (tb (Lib.itoa f.params[j].hi))) ∧ Below w.heap.size w w') := HNM.out _ hok.2.2
      have zA : (tb (Lib.itoa f.params[j].lo)).size ≤ 21 := by rw [tb_size]; exact Lib.itoa_length_le _ hok.2.1.1 hok.2.1.2
      have zB : (tb (Lib.itoa f.params[j].hi)).size ≤ 21 := by rw [tb_size]; exact Lib.itoa_length_le _ hok.2.2.1 hok.2.2.2
      have zP := HPN.out _ hm
      have HN : Hid (tb (comB ((f.params.map paB).take (j + 1))) = elT j (tb (paB f.params[j])) (tb (comB ((f.params.map paB).take j)) ++ tb [44, 32] ++ tb (paB f.params[j]))) := by
        show _ = _; rw [comB_at (f.params.map paB) j (by simpa using hlt), List.getElem_map]
      have HPB : Hid (tb (paB f.params[j]) = f.params[j].name ++ tb [32, 105, 110, 32] ++ tb (Lib.itoa f.params[j].lo) ++ tb [46, 46] ++ tb (Lib.itoa f.params[j].hi)) := by
        show _ = _; unfold paB; simp only [← tb_app, tb_of]
      have H0 : Hid (j = 0 → tb (comB ((f.params.map paB).take j)) = tb []) := fun h => by subst h; simp [comB]
      clear hok hm
      generalize tb (comB ((f.params.map paB).take j)) = R at *
      generalize f.params[j] = p at *
      rw [HPB.out] at HN
      generalize tb (Lib.itoa p.lo) = TA at *
      generalize tb (Lib.itoa p.hi) = TB at *
      have x1 := cell_regrown c1
      have q0 := cell_regrown d0
      have q1 := cell_regrown d1
      have q2 := cell_regrown d2
      have HB : Hid (∀ d os, Below w.heap.size w (grow (redrawn wr d) os) ∧ w.heap.size < (grow (redrawn wr d) os).heap.size ∧ BoxL (grow (redrawn wr d) os) w.heap.size [.string f.name, .slice f.pa f.params.length f.pc, .slice f.ba f.body.length f.bc]) := fun d os => ⟨hb.trans ((below_regrown _ d os).mono hb.size), Nat.lt_of_lt_of_le hsr (below_regrown wr d os).size, HBY.out.below (below_regrown wr d os) hsr⟩
      by_cases hj0 : j = 0
      · have HV : Hid (Hh ++ R ++ (p.name ++ tb [32, 105, 110, 32] ++ TA ++ tb [46, 46] ++ TB) = Hh ++ tb (comB ((f.params.map paB).take (j + 1)))) := by
          show _ = _; rw [HN.out, H0.out hj0, tb_nil]; unfold elT; rw [if_pos hj0]
        have hjn : ¬ (0 : Int) < (j : Int) := by omega
        clear hj0 H0 HN HPB
        go_wp2_with fail
        clear c1 d0 d1 d2
        refine wp_region_quiet_below (by kernel_rfl) (by kernel_rfl) ?_
        repeat (go_big_quiet_step (first | (go_at_call 20; with_reducible exact Calls.regrown_of (KA.out _)) | (go_at_call 20; with_reducible exact Calls.regrown_of (KB.out _))))
        refine wpQuiet_nil ?_
        intro _ hw'
        obtain ⟨⟨dq, osq⟩, hw''⟩ := hw'
        subst hw''
        clear x1 q0 q1 q2
        have HBZ : Hid (Below w.heap.size w (grow (redrawn wr dq) osq) ∧ w.heap.size < (grow (redrawn wr dq) osq).heap.size ∧ BoxL (grow (redrawn wr dq) osq) w.heap.size [.string f.name, .slice f.pa f.params.length f.pc, .slice f.ba f.body.length f.bc]) := HB.out dq osq
        go_wp2_with fail
        go_roundw
        case rel => exact ⟨j + 1, by omega, congrArg Value.string HV.out, by go_num, HBZ.out.1, HBZ.out.2.1, HBZ.out.2.2⟩
        case measure => simp [intOf]; omega
      · have HV : Hid (Hh ++ R ++ tb [44, 32] ++ (p.name ++ tb [32, 105, 110, 32] ++ TA ++ tb [46, 46] ++ TB) = Hh ++ tb (comB ((f.params.map paB).take (j + 1)))) := by
          show _ = _; rw [HN.out]; unfold elT; rw [if_neg hj0]; simp only [ByteArray.append_assoc]
        have hjn : (0 : Int) < (j : Int) := by omega
        clear hj0 H0 HN HPB
        go_wp2_with fail
        clear c1 d0 d1 d2
        refine wp_region_quiet_below (by kernel_rfl) (by kernel_rfl) ?_
        repeat (go_big_quiet_step (first | (go_at_call 20; with_reducible exact Calls.regrown_of (KA.out _)) | (go_at_call 20; with_reducible exact Calls.regrown_of (KB.out _))))
        refine wpQuiet_nil ?_
        intro _ hw'
        obtain ⟨⟨dq, osq⟩, hw''⟩ := hw'
        subst hw''
        clear x1 q0 q1 q2
        have HBZ : Hid (Below w.heap.size w (grow (redrawn wr dq) osq) ∧ w.heap.size < (grow (redrawn wr dq) osq).heap.size ∧ BoxL (grow (redrawn wr dq) osq) w.heap.size [.string f.name, .slice f.pa f.params.length f.pc, .slice f.ba f.body.length f.bc]) := HB.out dq osq
        go_wp2_with fail
        go_roundw
        case rel => exact ⟨j + 1, by omega, congrArg Value.string HV.out, by go_num, HBZ.out.1, HBZ.out.2.1, HBZ.out.2.2⟩
        case measure => simp [intOf]; omega
    · have hli : ¬ (j : Int) < (f.params.length : Int) := by omega
      have HF : Hid (Hh ++ tb (comB ((f.params.map paB).take j)) ++ tb [41, 32, 123] = tb [102, 110, 32] ++ f.name ++ tb [40] ++ tb (comB (f.params.map paB)) ++ tb [41, 32, 123]) := by
        show _ = _; rw [HH.out, List.take_of_length_le (by simp; omega)]
      generalize tb (comB ((f.params.map paB).take j)) = R at *
      go_wp2_with fail
      go_ret
      exact ⟨retS HF.out, hb⟩
end Go.Proofs.YtbpemackmadhgaaGreatDoor

/- A statement's box, behind calls that only lay blocks. -/
namespace Go.Proofs.YtbpemackmadhgaaGreatDoor
open Go.RowKit Go.Sort
theorem len_beq {α : Type} (l : List α) : ((l.length : Int) == 0) = l.isEmpty := by cases l <;> simp <;> omega
theorem nil_beq (l : List UInt8) : (l == []) = l.isEmpty := by cases l <;> rfl
end Go.Proofs.YtbpemackmadhgaaGreatDoor

/- The document's own question whether a statement has a form: kinds 8, 1, 5. -/
namespace Go.Proofs.YtbpemackmadhgaaGreatDoor
open Go.RowKit Go.Sort

set_option maxRecDepth 100000 in
set_option maxHeartbeats 4000000 in
theorem formed_8 (s : St) (w : World) (hk : s.kind = 8) : Calls Tryz.prog 54 #[s.val] w fun e w' => e = .returned (.bool ((s.name.toList == []) && (s.n == 0) && zeroE s.a && zeroE s.b && ((s.body.length : Int) == 0) && ((s.els.length : Int) == 0) && ((s.cases.length : Int) == 0))) ∧ Below w.heap.size w w' := by
  have HC : Hid (∀ w, Calls Tryz.prog 53 #[.int .i64 8] w fun e w' => e = .returned (.agg #[.bool false, .bool false, .bool false, .bool false, .bool false, .bool false, .bool false]) ∧ Below w.heap.size w w') := fun w => counts_any 8 w
  have HA : Hid (∀ w, Calls Tryz.prog 77 #[s.a.val] w fun e w' => e = .returned (.bool (zeroE s.a)) ∧ Below w.heap.size w w') := fun w => rzero_any s.a w
  have HB : Hid (∀ w, Calls Tryz.prog 77 #[s.b.val] w fun e w' => e = .returned (.bool (zeroE s.b)) ∧ Below w.heap.size w w') := fun w => rzero_any s.b w
  have hb0 := (Below.refl _ w).alloc (Nat.le_refl _) (.cells #[.int .i64 s.kind, .string s.name, .int .i64 s.n, .int .i64 s.a.kind, .int .i64 s.a.n, .string s.a.name, .slice s.a.a s.a.args.length s.a.cap, .int .i64 s.b.kind, .int .i64 s.b.n, .string s.b.name, .slice s.b.a s.b.args.length s.b.cap, .slice s.ba s.body.length s.bc, .slice s.ea s.els.length s.ec, .slice s.ca s.cases.length s.cc] 43)
  have BXN : Hid (BoxS _ w.heap.size s) := boxS_new w s
  unfold St.val
  unfold Ex.val at HA HB
  rw [hk] at BXN hb0 ⊢
  have HK : Hid (s.kind = 8) := hk
  clear hk
  cases t0 : (s.name.toList == [])
  · go_enter Tryz.func54, Tryz.ntmps54
    go_wp2_with fail
    refine (HC.out _).mono ?_
    rintro e w1 ⟨rfl, hb1⟩
    have BX : Hid (BoxS w1 w.heap.size s) := BXN.out.below hb1 (by simp)
    have hbl : Below w.heap.size w w1 := hb0.trans (hb1.mono (by simp))
    have hs1 : w.heap.size < w1.heap.size := by have := hb1.size; simp at this; omega
    clear hb1
    have HBL : Hid (Below w.heap.size w (w1.alloc (.cells #[.bool false, .bool false, .bool false, .bool false, .bool false, .bool false, .bool false] 95))) := hbl.alloc (by omega) _
    have BX0 := BX.out
    have c0 := BX0 0 _ rfl
    have c1 := BX0 1 _ rfl
    have c2 := BX0 2 _ rfl
    have c3 := BX0 3 _ rfl
    have c4 := BX0 4 _ rfl
    have c5 := BX0 5 _ rfl
    have c6 := BX0 6 _ rfl
    have c7 := BX0 7 _ rfl
    have c8 := BX0 8 _ rfl
    have c9 := BX0 9 _ rfl
    have c10 := BX0 10 _ rfl
    have c11 := BX0 11 _ rfl
    have c12 := BX0 12 _ rfl
    have c13 := BX0 13 _ rfl
    rw [HK.out] at c0
    clear BX0
    go_upto_region 2 with fail
    simp only [List.append]
    go_wp2_with fail
    go_ret
    exact ⟨rfl, HBL.out⟩
  · cases t1 : (s.n == 0)
    · go_enter Tryz.func54, Tryz.ntmps54
      go_wp2_with fail
      refine (HC.out _).mono ?_
      rintro e w1 ⟨rfl, hb1⟩
      have BX : Hid (BoxS w1 w.heap.size s) := BXN.out.below hb1 (by simp)
      have hbl : Below w.heap.size w w1 := hb0.trans (hb1.mono (by simp))
      have hs1 : w.heap.size < w1.heap.size := by have := hb1.size; simp at this; omega
      clear hb1
      have HBL : Hid (Below w.heap.size w (w1.alloc (.cells #[.bool false, .bool false, .bool false, .bool false, .bool false, .bool false, .bool false] 95))) := hbl.alloc (by omega) _
      have BX0 := BX.out
      have c0 := BX0 0 _ rfl
      have c1 := BX0 1 _ rfl
      have c2 := BX0 2 _ rfl
      have c3 := BX0 3 _ rfl
      have c4 := BX0 4 _ rfl
      have c5 := BX0 5 _ rfl
      have c6 := BX0 6 _ rfl
      have c7 := BX0 7 _ rfl
      have c8 := BX0 8 _ rfl
      have c9 := BX0 9 _ rfl
      have c10 := BX0 10 _ rfl
      have c11 := BX0 11 _ rfl
      have c12 := BX0 12 _ rfl
      have c13 := BX0 13 _ rfl
      rw [HK.out] at c0
      clear BX0
      go_upto_region 2 with fail
      simp only [List.append]
      go_wp2_with fail
      go_ret
      exact ⟨rfl, HBL.out⟩
    · cases t2 : zeroE s.a
      · rw [t2] at HA
        go_enter Tryz.func54, Tryz.ntmps54
        go_wp2_with fail
        refine (HC.out _).mono ?_
        rintro e w1 ⟨rfl, hb1⟩
        have BX : Hid (BoxS w1 w.heap.size s) := BXN.out.below hb1 (by simp)
        have hbl : Below w.heap.size w w1 := hb0.trans (hb1.mono (by simp))
        have hs1 : w.heap.size < w1.heap.size := by have := hb1.size; simp at this; omega
        clear hb1
        have HBL : Hid (Below w.heap.size w (w1.alloc (.cells #[.bool false, .bool false, .bool false, .bool false, .bool false, .bool false, .bool false] 95))) := hbl.alloc (by omega) _
        have BX0 := BX.out
        have c0 := BX0 0 _ rfl
        have c1 := BX0 1 _ rfl
        have c2 := BX0 2 _ rfl
        have c3 := BX0 3 _ rfl
        have c4 := BX0 4 _ rfl
        have c5 := BX0 5 _ rfl
        have c6 := BX0 6 _ rfl
        have c7 := BX0 7 _ rfl
        have c8 := BX0 8 _ rfl
        have c9 := BX0 9 _ rfl
        have c10 := BX0 10 _ rfl
        have c11 := BX0 11 _ rfl
        have c12 := BX0 12 _ rfl
        have c13 := BX0 13 _ rfl
        rw [HK.out] at c0
        clear BX0
        go_upto_region 2 with fail
        simp only [List.append]
        go_wp2_with fail
        refine (HA.out _).mono ?_
        rintro e w2 ⟨rfl, hbc2⟩
        have CA : Hid (∀ (i : Nat) v, ([.bool false, .bool false, .bool false, .bool false, .bool false, .bool false, .bool false] : List Value)[i]? = some v → w2.cell? ⟨w1.heap.size, i, none⟩ = some v) := fun i v h => (hbc2.cell (p := ⟨w1.heap.size, i, none⟩) (by simp)).trans (by rw [World.cell?_alloc_at _ _ _ _ rfl]; simpa using h)
        have BY : Hid (BoxS w2 w.heap.size s) := BoxS.below (fun i v h => (World.cell?_alloc_past _ _ _ hs1).trans (BX.out i v h)) hbc2 (by simp; omega)
        have HBM : Hid (Below w.heap.size w w2) := HBL.out.trans (hbc2.mono (by simp; omega))
        have hs2 : w1.heap.size < w2.heap.size := by have := hbc2.size; simp at this; omega
        clear hbc2 c0 c1 c2 c3 c4 c5 c6 c7 c8 c9 c10 c11 c12 c13
        have CA0 := CA.out
        have BY0 := BY.out
        have d0 := CA0 0 _ rfl
        have d1 := CA0 1 _ rfl
        have d2 := CA0 2 _ rfl
        have d3 := CA0 3 _ rfl
        have d4 := CA0 4 _ rfl
        have d5 := CA0 5 _ rfl
        have d6 := CA0 6 _ rfl
        have c0 := BY0 0 _ rfl
        have c1 := BY0 1 _ rfl
        have c2 := BY0 2 _ rfl
        have c3 := BY0 3 _ rfl
        have c4 := BY0 4 _ rfl
        have c5 := BY0 5 _ rfl
        have c6 := BY0 6 _ rfl
        have c7 := BY0 7 _ rfl
        have c8 := BY0 8 _ rfl
        have c9 := BY0 9 _ rfl
        have c10 := BY0 10 _ rfl
        have c11 := BY0 11 _ rfl
        have c12 := BY0 12 _ rfl
        have c13 := BY0 13 _ rfl
        rw [HK.out] at c0
        clear CA0 BY0
        go_wp2_with fail
        go_ret
        exact ⟨rfl, HBM.out⟩
      · rw [t2] at HA
        cases t3 : zeroE s.b
        · rw [t3] at HB
          go_enter Tryz.func54, Tryz.ntmps54
          go_wp2_with fail
          refine (HC.out _).mono ?_
          rintro e w1 ⟨rfl, hb1⟩
          have BX : Hid (BoxS w1 w.heap.size s) := BXN.out.below hb1 (by simp)
          have hbl : Below w.heap.size w w1 := hb0.trans (hb1.mono (by simp))
          have hs1 : w.heap.size < w1.heap.size := by have := hb1.size; simp at this; omega
          clear hb1
          have HBL : Hid (Below w.heap.size w (w1.alloc (.cells #[.bool false, .bool false, .bool false, .bool false, .bool false, .bool false, .bool false] 95))) := hbl.alloc (by omega) _
          have BX0 := BX.out
          have c0 := BX0 0 _ rfl
          have c1 := BX0 1 _ rfl
          have c2 := BX0 2 _ rfl
          have c3 := BX0 3 _ rfl
          have c4 := BX0 4 _ rfl
          have c5 := BX0 5 _ rfl
          have c6 := BX0 6 _ rfl
          have c7 := BX0 7 _ rfl
          have c8 := BX0 8 _ rfl
          have c9 := BX0 9 _ rfl
          have c10 := BX0 10 _ rfl
          have c11 := BX0 11 _ rfl
          have c12 := BX0 12 _ rfl
          have c13 := BX0 13 _ rfl
          rw [HK.out] at c0
          clear BX0
          go_upto_region 2 with fail
          simp only [List.append]
          go_wp2_with fail
          refine (HA.out _).mono ?_
          rintro e w2 ⟨rfl, hbc2⟩
          have CA : Hid (∀ (i : Nat) v, ([.bool false, .bool false, .bool false, .bool false, .bool false, .bool false, .bool false] : List Value)[i]? = some v → w2.cell? ⟨w1.heap.size, i, none⟩ = some v) := fun i v h => (hbc2.cell (p := ⟨w1.heap.size, i, none⟩) (by simp)).trans (by rw [World.cell?_alloc_at _ _ _ _ rfl]; simpa using h)
          have BY : Hid (BoxS w2 w.heap.size s) := BoxS.below (fun i v h => (World.cell?_alloc_past _ _ _ hs1).trans (BX.out i v h)) hbc2 (by simp; omega)
          have HBM : Hid (Below w.heap.size w w2) := HBL.out.trans (hbc2.mono (by simp; omega))
          have hs2 : w1.heap.size < w2.heap.size := by have := hbc2.size; simp at this; omega
          clear hbc2 c0 c1 c2 c3 c4 c5 c6 c7 c8 c9 c10 c11 c12 c13
          have CA0 := CA.out
          have BY0 := BY.out
          have d0 := CA0 0 _ rfl
          have d1 := CA0 1 _ rfl
          have d2 := CA0 2 _ rfl
          have d3 := CA0 3 _ rfl
          have d4 := CA0 4 _ rfl
          have d5 := CA0 5 _ rfl
          have d6 := CA0 6 _ rfl
          have c0 := BY0 0 _ rfl
          have c1 := BY0 1 _ rfl
          have c2 := BY0 2 _ rfl
          have c3 := BY0 3 _ rfl
          have c4 := BY0 4 _ rfl
          have c5 := BY0 5 _ rfl
          have c6 := BY0 6 _ rfl
          have c7 := BY0 7 _ rfl
          have c8 := BY0 8 _ rfl
          have c9 := BY0 9 _ rfl
          have c10 := BY0 10 _ rfl
          have c11 := BY0 11 _ rfl
          have c12 := BY0 12 _ rfl
          have c13 := BY0 13 _ rfl
          rw [HK.out] at c0
          clear CA0 BY0
          go_wp2_with fail
          clear d0 d1 d2 d3 d4 d5 d6
          refine (HB.out _).mono ?_
          rintro e w3 ⟨rfl, hbc3⟩
          have CA3 : Hid (∀ (i : Nat) v, ([.bool false, .bool false, .bool false, .bool false, .bool false, .bool false, .bool false] : List Value)[i]? = some v → w3.cell? ⟨w1.heap.size, i, none⟩ = some v) := fun i v h => (hbc3.cell (p := ⟨w1.heap.size, i, none⟩) hs2).trans (CA.out i v h)
          have BY3 : Hid (BoxS w3 w.heap.size s) := BY.out.below hbc3 (by omega)
          have HBM3 : Hid (Below w.heap.size w w3) := HBM.out.trans (hbc3.mono (by omega))
          clear hbc3 c0 c1 c2 c3 c4 c5 c6 c7 c8 c9 c10 c11 c12 c13
          have CA0 := CA3.out
          have BY0 := BY3.out
          have d0 := CA0 0 _ rfl
          have d1 := CA0 1 _ rfl
          have d2 := CA0 2 _ rfl
          have d3 := CA0 3 _ rfl
          have d4 := CA0 4 _ rfl
          have d5 := CA0 5 _ rfl
          have d6 := CA0 6 _ rfl
          have c0 := BY0 0 _ rfl
          have c1 := BY0 1 _ rfl
          have c2 := BY0 2 _ rfl
          have c3 := BY0 3 _ rfl
          have c4 := BY0 4 _ rfl
          have c5 := BY0 5 _ rfl
          have c6 := BY0 6 _ rfl
          have c7 := BY0 7 _ rfl
          have c8 := BY0 8 _ rfl
          have c9 := BY0 9 _ rfl
          have c10 := BY0 10 _ rfl
          have c11 := BY0 11 _ rfl
          have c12 := BY0 12 _ rfl
          have c13 := BY0 13 _ rfl
          rw [HK.out] at c0
          clear CA0 BY0
          go_wp2_with fail
          go_ret
          exact ⟨rfl, HBM3.out⟩
        · rw [t3] at HB
          cases t4 : ((s.body.length : Int) == 0)
          · go_enter Tryz.func54, Tryz.ntmps54
            go_wp2_with fail
            refine (HC.out _).mono ?_
            rintro e w1 ⟨rfl, hb1⟩
            have BX : Hid (BoxS w1 w.heap.size s) := BXN.out.below hb1 (by simp)
            have hbl : Below w.heap.size w w1 := hb0.trans (hb1.mono (by simp))
            have hs1 : w.heap.size < w1.heap.size := by have := hb1.size; simp at this; omega
            clear hb1
            have HBL : Hid (Below w.heap.size w (w1.alloc (.cells #[.bool false, .bool false, .bool false, .bool false, .bool false, .bool false, .bool false] 95))) := hbl.alloc (by omega) _
            have BX0 := BX.out
            have c0 := BX0 0 _ rfl
            have c1 := BX0 1 _ rfl
            have c2 := BX0 2 _ rfl
            have c3 := BX0 3 _ rfl
            have c4 := BX0 4 _ rfl
            have c5 := BX0 5 _ rfl
            have c6 := BX0 6 _ rfl
            have c7 := BX0 7 _ rfl
            have c8 := BX0 8 _ rfl
            have c9 := BX0 9 _ rfl
            have c10 := BX0 10 _ rfl
            have c11 := BX0 11 _ rfl
            have c12 := BX0 12 _ rfl
            have c13 := BX0 13 _ rfl
            rw [HK.out] at c0
            clear BX0
            go_upto_region 2 with fail
            simp only [List.append]
            go_wp2_with fail
            refine (HA.out _).mono ?_
            rintro e w2 ⟨rfl, hbc2⟩
            have CA : Hid (∀ (i : Nat) v, ([.bool false, .bool false, .bool false, .bool false, .bool false, .bool false, .bool false] : List Value)[i]? = some v → w2.cell? ⟨w1.heap.size, i, none⟩ = some v) := fun i v h => (hbc2.cell (p := ⟨w1.heap.size, i, none⟩) (by simp)).trans (by rw [World.cell?_alloc_at _ _ _ _ rfl]; simpa using h)
            have BY : Hid (BoxS w2 w.heap.size s) := BoxS.below (fun i v h => (World.cell?_alloc_past _ _ _ hs1).trans (BX.out i v h)) hbc2 (by simp; omega)
            have HBM : Hid (Below w.heap.size w w2) := HBL.out.trans (hbc2.mono (by simp; omega))
            have hs2 : w1.heap.size < w2.heap.size := by have := hbc2.size; simp at this; omega
            clear hbc2 c0 c1 c2 c3 c4 c5 c6 c7 c8 c9 c10 c11 c12 c13
            have CA0 := CA.out
            have BY0 := BY.out
            have d0 := CA0 0 _ rfl
            have d1 := CA0 1 _ rfl
            have d2 := CA0 2 _ rfl
            have d3 := CA0 3 _ rfl
            have d4 := CA0 4 _ rfl
            have d5 := CA0 5 _ rfl
            have d6 := CA0 6 _ rfl
            have c0 := BY0 0 _ rfl
            have c1 := BY0 1 _ rfl
            have c2 := BY0 2 _ rfl
            have c3 := BY0 3 _ rfl
            have c4 := BY0 4 _ rfl
            have c5 := BY0 5 _ rfl
            have c6 := BY0 6 _ rfl
            have c7 := BY0 7 _ rfl
            have c8 := BY0 8 _ rfl
            have c9 := BY0 9 _ rfl
            have c10 := BY0 10 _ rfl
            have c11 := BY0 11 _ rfl
            have c12 := BY0 12 _ rfl
            have c13 := BY0 13 _ rfl
            rw [HK.out] at c0
            clear CA0 BY0
            go_wp2_with fail
            clear d0 d1 d2 d3 d4 d5 d6
            refine (HB.out _).mono ?_
            rintro e w3 ⟨rfl, hbc3⟩
            have CA3 : Hid (∀ (i : Nat) v, ([.bool false, .bool false, .bool false, .bool false, .bool false, .bool false, .bool false] : List Value)[i]? = some v → w3.cell? ⟨w1.heap.size, i, none⟩ = some v) := fun i v h => (hbc3.cell (p := ⟨w1.heap.size, i, none⟩) hs2).trans (CA.out i v h)
            have BY3 : Hid (BoxS w3 w.heap.size s) := BY.out.below hbc3 (by omega)
            have HBM3 : Hid (Below w.heap.size w w3) := HBM.out.trans (hbc3.mono (by omega))
            clear hbc3 c0 c1 c2 c3 c4 c5 c6 c7 c8 c9 c10 c11 c12 c13
            have CA0 := CA3.out
            have BY0 := BY3.out
            have d0 := CA0 0 _ rfl
            have d1 := CA0 1 _ rfl
            have d2 := CA0 2 _ rfl
            have d3 := CA0 3 _ rfl
            have d4 := CA0 4 _ rfl
            have d5 := CA0 5 _ rfl
            have d6 := CA0 6 _ rfl
            have c0 := BY0 0 _ rfl
            have c1 := BY0 1 _ rfl
            have c2 := BY0 2 _ rfl
            have c3 := BY0 3 _ rfl
            have c4 := BY0 4 _ rfl
            have c5 := BY0 5 _ rfl
            have c6 := BY0 6 _ rfl
            have c7 := BY0 7 _ rfl
            have c8 := BY0 8 _ rfl
            have c9 := BY0 9 _ rfl
            have c10 := BY0 10 _ rfl
            have c11 := BY0 11 _ rfl
            have c12 := BY0 12 _ rfl
            have c13 := BY0 13 _ rfl
            rw [HK.out] at c0
            clear CA0 BY0
            go_wp2_with fail
            go_ret
            exact ⟨rfl, HBM3.out⟩
          · cases t5 : ((s.els.length : Int) == 0)
            · go_enter Tryz.func54, Tryz.ntmps54
              go_wp2_with fail
              refine (HC.out _).mono ?_
              rintro e w1 ⟨rfl, hb1⟩
              have BX : Hid (BoxS w1 w.heap.size s) := BXN.out.below hb1 (by simp)
              have hbl : Below w.heap.size w w1 := hb0.trans (hb1.mono (by simp))
              have hs1 : w.heap.size < w1.heap.size := by have := hb1.size; simp at this; omega
              clear hb1
              have HBL : Hid (Below w.heap.size w (w1.alloc (.cells #[.bool false, .bool false, .bool false, .bool false, .bool false, .bool false, .bool false] 95))) := hbl.alloc (by omega) _
              have BX0 := BX.out
              have c0 := BX0 0 _ rfl
              have c1 := BX0 1 _ rfl
              have c2 := BX0 2 _ rfl
              have c3 := BX0 3 _ rfl
              have c4 := BX0 4 _ rfl
              have c5 := BX0 5 _ rfl
              have c6 := BX0 6 _ rfl
              have c7 := BX0 7 _ rfl
              have c8 := BX0 8 _ rfl
              have c9 := BX0 9 _ rfl
              have c10 := BX0 10 _ rfl
              have c11 := BX0 11 _ rfl
              have c12 := BX0 12 _ rfl
              have c13 := BX0 13 _ rfl
              rw [HK.out] at c0
              clear BX0
              go_upto_region 2 with fail
              simp only [List.append]
              go_wp2_with fail
              refine (HA.out _).mono ?_
              rintro e w2 ⟨rfl, hbc2⟩
              have CA : Hid (∀ (i : Nat) v, ([.bool false, .bool false, .bool false, .bool false, .bool false, .bool false, .bool false] : List Value)[i]? = some v → w2.cell? ⟨w1.heap.size, i, none⟩ = some v) := fun i v h => (hbc2.cell (p := ⟨w1.heap.size, i, none⟩) (by simp)).trans (by rw [World.cell?_alloc_at _ _ _ _ rfl]; simpa using h)
              have BY : Hid (BoxS w2 w.heap.size s) := BoxS.below (fun i v h => (World.cell?_alloc_past _ _ _ hs1).trans (BX.out i v h)) hbc2 (by simp; omega)
              have HBM : Hid (Below w.heap.size w w2) := HBL.out.trans (hbc2.mono (by simp; omega))
              have hs2 : w1.heap.size < w2.heap.size := by have := hbc2.size; simp at this; omega
              clear hbc2 c0 c1 c2 c3 c4 c5 c6 c7 c8 c9 c10 c11 c12 c13
              have CA0 := CA.out
              have BY0 := BY.out
              have d0 := CA0 0 _ rfl
              have d1 := CA0 1 _ rfl
              have d2 := CA0 2 _ rfl
              have d3 := CA0 3 _ rfl
              have d4 := CA0 4 _ rfl
              have d5 := CA0 5 _ rfl
              have d6 := CA0 6 _ rfl
              have c0 := BY0 0 _ rfl
              have c1 := BY0 1 _ rfl
              have c2 := BY0 2 _ rfl
              have c3 := BY0 3 _ rfl
              have c4 := BY0 4 _ rfl
              have c5 := BY0 5 _ rfl
              have c6 := BY0 6 _ rfl
              have c7 := BY0 7 _ rfl
              have c8 := BY0 8 _ rfl
              have c9 := BY0 9 _ rfl
              have c10 := BY0 10 _ rfl
              have c11 := BY0 11 _ rfl
              have c12 := BY0 12 _ rfl
              have c13 := BY0 13 _ rfl
              rw [HK.out] at c0
              clear CA0 BY0
              go_wp2_with fail
              clear d0 d1 d2 d3 d4 d5 d6
              refine (HB.out _).mono ?_
              rintro e w3 ⟨rfl, hbc3⟩
              have CA3 : Hid (∀ (i : Nat) v, ([.bool false, .bool false, .bool false, .bool false, .bool false, .bool false, .bool false] : List Value)[i]? = some v → w3.cell? ⟨w1.heap.size, i, none⟩ = some v) := fun i v h => (hbc3.cell (p := ⟨w1.heap.size, i, none⟩) hs2).trans (CA.out i v h)
              have BY3 : Hid (BoxS w3 w.heap.size s) := BY.out.below hbc3 (by omega)
              have HBM3 : Hid (Below w.heap.size w w3) := HBM.out.trans (hbc3.mono (by omega))
              clear hbc3 c0 c1 c2 c3 c4 c5 c6 c7 c8 c9 c10 c11 c12 c13
              have CA0 := CA3.out
              have BY0 := BY3.out
              have d0 := CA0 0 _ rfl
              have d1 := CA0 1 _ rfl
              have d2 := CA0 2 _ rfl
              have d3 := CA0 3 _ rfl
              have d4 := CA0 4 _ rfl
              have d5 := CA0 5 _ rfl
              have d6 := CA0 6 _ rfl
              have c0 := BY0 0 _ rfl
              have c1 := BY0 1 _ rfl
              have c2 := BY0 2 _ rfl
              have c3 := BY0 3 _ rfl
              have c4 := BY0 4 _ rfl
              have c5 := BY0 5 _ rfl
              have c6 := BY0 6 _ rfl
              have c7 := BY0 7 _ rfl
              have c8 := BY0 8 _ rfl
              have c9 := BY0 9 _ rfl
              have c10 := BY0 10 _ rfl
              have c11 := BY0 11 _ rfl
              have c12 := BY0 12 _ rfl
              have c13 := BY0 13 _ rfl
              rw [HK.out] at c0
              clear CA0 BY0
              go_wp2_with fail
              go_ret
              exact ⟨rfl, HBM3.out⟩
            · cases t6 : ((s.cases.length : Int) == 0)
              · go_enter Tryz.func54, Tryz.ntmps54
                go_wp2_with fail
                refine (HC.out _).mono ?_
                rintro e w1 ⟨rfl, hb1⟩
                have BX : Hid (BoxS w1 w.heap.size s) := BXN.out.below hb1 (by simp)
                have hbl : Below w.heap.size w w1 := hb0.trans (hb1.mono (by simp))
                have hs1 : w.heap.size < w1.heap.size := by have := hb1.size; simp at this; omega
                clear hb1
                have HBL : Hid (Below w.heap.size w (w1.alloc (.cells #[.bool false, .bool false, .bool false, .bool false, .bool false, .bool false, .bool false] 95))) := hbl.alloc (by omega) _
                have BX0 := BX.out
                have c0 := BX0 0 _ rfl
                have c1 := BX0 1 _ rfl
                have c2 := BX0 2 _ rfl
                have c3 := BX0 3 _ rfl
                have c4 := BX0 4 _ rfl
                have c5 := BX0 5 _ rfl
                have c6 := BX0 6 _ rfl
                have c7 := BX0 7 _ rfl
                have c8 := BX0 8 _ rfl
                have c9 := BX0 9 _ rfl
                have c10 := BX0 10 _ rfl
                have c11 := BX0 11 _ rfl
                have c12 := BX0 12 _ rfl
                have c13 := BX0 13 _ rfl
                rw [HK.out] at c0
                clear BX0
                go_upto_region 2 with fail
                simp only [List.append]
                go_wp2_with fail
                refine (HA.out _).mono ?_
                rintro e w2 ⟨rfl, hbc2⟩
                have CA : Hid (∀ (i : Nat) v, ([.bool false, .bool false, .bool false, .bool false, .bool false, .bool false, .bool false] : List Value)[i]? = some v → w2.cell? ⟨w1.heap.size, i, none⟩ = some v) := fun i v h => (hbc2.cell (p := ⟨w1.heap.size, i, none⟩) (by simp)).trans (by rw [World.cell?_alloc_at _ _ _ _ rfl]; simpa using h)
                have BY : Hid (BoxS w2 w.heap.size s) := BoxS.below (fun i v h => (World.cell?_alloc_past _ _ _ hs1).trans (BX.out i v h)) hbc2 (by simp; omega)
                have HBM : Hid (Below w.heap.size w w2) := HBL.out.trans (hbc2.mono (by simp; omega))
                have hs2 : w1.heap.size < w2.heap.size := by have := hbc2.size; simp at this; omega
                clear hbc2 c0 c1 c2 c3 c4 c5 c6 c7 c8 c9 c10 c11 c12 c13
                have CA0 := CA.out
                have BY0 := BY.out
                have d0 := CA0 0 _ rfl
                have d1 := CA0 1 _ rfl
                have d2 := CA0 2 _ rfl
                have d3 := CA0 3 _ rfl
                have d4 := CA0 4 _ rfl
                have d5 := CA0 5 _ rfl
                have d6 := CA0 6 _ rfl
                have c0 := BY0 0 _ rfl
                have c1 := BY0 1 _ rfl
                have c2 := BY0 2 _ rfl
                have c3 := BY0 3 _ rfl
                have c4 := BY0 4 _ rfl
                have c5 := BY0 5 _ rfl
                have c6 := BY0 6 _ rfl
                have c7 := BY0 7 _ rfl
                have c8 := BY0 8 _ rfl
                have c9 := BY0 9 _ rfl
                have c10 := BY0 10 _ rfl
                have c11 := BY0 11 _ rfl
                have c12 := BY0 12 _ rfl
                have c13 := BY0 13 _ rfl
                rw [HK.out] at c0
                clear CA0 BY0
                go_wp2_with fail
                clear d0 d1 d2 d3 d4 d5 d6
                refine (HB.out _).mono ?_
                rintro e w3 ⟨rfl, hbc3⟩
                have CA3 : Hid (∀ (i : Nat) v, ([.bool false, .bool false, .bool false, .bool false, .bool false, .bool false, .bool false] : List Value)[i]? = some v → w3.cell? ⟨w1.heap.size, i, none⟩ = some v) := fun i v h => (hbc3.cell (p := ⟨w1.heap.size, i, none⟩) hs2).trans (CA.out i v h)
                have BY3 : Hid (BoxS w3 w.heap.size s) := BY.out.below hbc3 (by omega)
                have HBM3 : Hid (Below w.heap.size w w3) := HBM.out.trans (hbc3.mono (by omega))
                clear hbc3 c0 c1 c2 c3 c4 c5 c6 c7 c8 c9 c10 c11 c12 c13
                have CA0 := CA3.out
                have BY0 := BY3.out
                have d0 := CA0 0 _ rfl
                have d1 := CA0 1 _ rfl
                have d2 := CA0 2 _ rfl
                have d3 := CA0 3 _ rfl
                have d4 := CA0 4 _ rfl
                have d5 := CA0 5 _ rfl
                have d6 := CA0 6 _ rfl
                have c0 := BY0 0 _ rfl
                have c1 := BY0 1 _ rfl
                have c2 := BY0 2 _ rfl
                have c3 := BY0 3 _ rfl
                have c4 := BY0 4 _ rfl
                have c5 := BY0 5 _ rfl
                have c6 := BY0 6 _ rfl
                have c7 := BY0 7 _ rfl
                have c8 := BY0 8 _ rfl
                have c9 := BY0 9 _ rfl
                have c10 := BY0 10 _ rfl
                have c11 := BY0 11 _ rfl
                have c12 := BY0 12 _ rfl
                have c13 := BY0 13 _ rfl
                rw [HK.out] at c0
                clear CA0 BY0
                go_wp2_with fail
                go_ret
                exact ⟨rfl, HBM3.out⟩
              · go_enter Tryz.func54, Tryz.ntmps54
                go_wp2_with fail
                refine (HC.out _).mono ?_
                rintro e w1 ⟨rfl, hb1⟩
                have BX : Hid (BoxS w1 w.heap.size s) := BXN.out.below hb1 (by simp)
                have hbl : Below w.heap.size w w1 := hb0.trans (hb1.mono (by simp))
                have hs1 : w.heap.size < w1.heap.size := by have := hb1.size; simp at this; omega
                clear hb1
                have HBL : Hid (Below w.heap.size w (w1.alloc (.cells #[.bool false, .bool false, .bool false, .bool false, .bool false, .bool false, .bool false] 95))) := hbl.alloc (by omega) _
                have BX0 := BX.out
                have c0 := BX0 0 _ rfl
                have c1 := BX0 1 _ rfl
                have c2 := BX0 2 _ rfl
                have c3 := BX0 3 _ rfl
                have c4 := BX0 4 _ rfl
                have c5 := BX0 5 _ rfl
                have c6 := BX0 6 _ rfl
                have c7 := BX0 7 _ rfl
                have c8 := BX0 8 _ rfl
                have c9 := BX0 9 _ rfl
                have c10 := BX0 10 _ rfl
                have c11 := BX0 11 _ rfl
                have c12 := BX0 12 _ rfl
                have c13 := BX0 13 _ rfl
                rw [HK.out] at c0
                clear BX0
                go_upto_region 2 with fail
                simp only [List.append]
                go_wp2_with fail
                refine (HA.out _).mono ?_
                rintro e w2 ⟨rfl, hbc2⟩
                have CA : Hid (∀ (i : Nat) v, ([.bool false, .bool false, .bool false, .bool false, .bool false, .bool false, .bool false] : List Value)[i]? = some v → w2.cell? ⟨w1.heap.size, i, none⟩ = some v) := fun i v h => (hbc2.cell (p := ⟨w1.heap.size, i, none⟩) (by simp)).trans (by rw [World.cell?_alloc_at _ _ _ _ rfl]; simpa using h)
                have BY : Hid (BoxS w2 w.heap.size s) := BoxS.below (fun i v h => (World.cell?_alloc_past _ _ _ hs1).trans (BX.out i v h)) hbc2 (by simp; omega)
                have HBM : Hid (Below w.heap.size w w2) := HBL.out.trans (hbc2.mono (by simp; omega))
                have hs2 : w1.heap.size < w2.heap.size := by have := hbc2.size; simp at this; omega
                clear hbc2 c0 c1 c2 c3 c4 c5 c6 c7 c8 c9 c10 c11 c12 c13
                have CA0 := CA.out
                have BY0 := BY.out
                have d0 := CA0 0 _ rfl
                have d1 := CA0 1 _ rfl
                have d2 := CA0 2 _ rfl
                have d3 := CA0 3 _ rfl
                have d4 := CA0 4 _ rfl
                have d5 := CA0 5 _ rfl
                have d6 := CA0 6 _ rfl
                have c0 := BY0 0 _ rfl
                have c1 := BY0 1 _ rfl
                have c2 := BY0 2 _ rfl
                have c3 := BY0 3 _ rfl
                have c4 := BY0 4 _ rfl
                have c5 := BY0 5 _ rfl
                have c6 := BY0 6 _ rfl
                have c7 := BY0 7 _ rfl
                have c8 := BY0 8 _ rfl
                have c9 := BY0 9 _ rfl
                have c10 := BY0 10 _ rfl
                have c11 := BY0 11 _ rfl
                have c12 := BY0 12 _ rfl
                have c13 := BY0 13 _ rfl
                rw [HK.out] at c0
                clear CA0 BY0
                go_wp2_with fail
                clear d0 d1 d2 d3 d4 d5 d6
                refine (HB.out _).mono ?_
                rintro e w3 ⟨rfl, hbc3⟩
                have CA3 : Hid (∀ (i : Nat) v, ([.bool false, .bool false, .bool false, .bool false, .bool false, .bool false, .bool false] : List Value)[i]? = some v → w3.cell? ⟨w1.heap.size, i, none⟩ = some v) := fun i v h => (hbc3.cell (p := ⟨w1.heap.size, i, none⟩) hs2).trans (CA.out i v h)
                have BY3 : Hid (BoxS w3 w.heap.size s) := BY.out.below hbc3 (by omega)
                have HBM3 : Hid (Below w.heap.size w w3) := HBM.out.trans (hbc3.mono (by omega))
                clear hbc3 c0 c1 c2 c3 c4 c5 c6 c7 c8 c9 c10 c11 c12 c13
                have CA0 := CA3.out
                have BY0 := BY3.out
                have d0 := CA0 0 _ rfl
                have d1 := CA0 1 _ rfl
                have d2 := CA0 2 _ rfl
                have d3 := CA0 3 _ rfl
                have d4 := CA0 4 _ rfl
                have d5 := CA0 5 _ rfl
                have d6 := CA0 6 _ rfl
                have c0 := BY0 0 _ rfl
                have c1 := BY0 1 _ rfl
                have c2 := BY0 2 _ rfl
                have c3 := BY0 3 _ rfl
                have c4 := BY0 4 _ rfl
                have c5 := BY0 5 _ rfl
                have c6 := BY0 6 _ rfl
                have c7 := BY0 7 _ rfl
                have c8 := BY0 8 _ rfl
                have c9 := BY0 9 _ rfl
                have c10 := BY0 10 _ rfl
                have c11 := BY0 11 _ rfl
                have c12 := BY0 12 _ rfl
                have c13 := BY0 13 _ rfl
                rw [HK.out] at c0
                clear CA0 BY0
                go_wp2_with fail
                go_ret
                exact ⟨rfl, HBM3.out⟩
set_option maxRecDepth 100000 in
set_option maxHeartbeats 4000000 in
theorem formed_1 (s : St) (w : World) (hk : s.kind = 1) : Calls Tryz.prog 54 #[s.val] w fun e w' => e = .returned (.bool ((s.n == 0) && zeroE s.b && ((s.body.length : Int) == 0) && ((s.els.length : Int) == 0) && ((s.cases.length : Int) == 0))) ∧ Below w.heap.size w w' := by
  have HC : Hid (∀ w, Calls Tryz.prog 53 #[.int .i64 1] w fun e w' => e = .returned (.agg #[.bool true, .bool false, .bool true, .bool false, .bool false, .bool false, .bool false]) ∧ Below w.heap.size w w') := fun w => counts_any 1 w
  have HA : Hid (∀ w, Calls Tryz.prog 77 #[s.a.val] w fun e w' => e = .returned (.bool (zeroE s.a)) ∧ Below w.heap.size w w') := fun w => rzero_any s.a w
  have HB : Hid (∀ w, Calls Tryz.prog 77 #[s.b.val] w fun e w' => e = .returned (.bool (zeroE s.b)) ∧ Below w.heap.size w w') := fun w => rzero_any s.b w
  have hb0 := (Below.refl _ w).alloc (Nat.le_refl _) (.cells #[.int .i64 s.kind, .string s.name, .int .i64 s.n, .int .i64 s.a.kind, .int .i64 s.a.n, .string s.a.name, .slice s.a.a s.a.args.length s.a.cap, .int .i64 s.b.kind, .int .i64 s.b.n, .string s.b.name, .slice s.b.a s.b.args.length s.b.cap, .slice s.ba s.body.length s.bc, .slice s.ea s.els.length s.ec, .slice s.ca s.cases.length s.cc] 43)
  have BXN : Hid (BoxS _ w.heap.size s) := boxS_new w s
  unfold St.val
  unfold Ex.val at HA HB
  rw [hk] at BXN hb0 ⊢
  have HK : Hid (s.kind = 1) := hk
  clear hk
  cases t1 : (s.n == 0)
  · go_enter Tryz.func54, Tryz.ntmps54
    go_wp2_with fail
    refine (HC.out _).mono ?_
    rintro e w1 ⟨rfl, hb1⟩
    have BX : Hid (BoxS w1 w.heap.size s) := BXN.out.below hb1 (by simp)
    have hbl : Below w.heap.size w w1 := hb0.trans (hb1.mono (by simp))
    have hs1 : w.heap.size < w1.heap.size := by have := hb1.size; simp at this; omega
    clear hb1
    have HBL : Hid (Below w.heap.size w (w1.alloc (.cells #[.bool true, .bool false, .bool true, .bool false, .bool false, .bool false, .bool false] 95))) := hbl.alloc (by omega) _
    have BX0 := BX.out
    have c0 := BX0 0 _ rfl
    have c1 := BX0 1 _ rfl
    have c2 := BX0 2 _ rfl
    have c3 := BX0 3 _ rfl
    have c4 := BX0 4 _ rfl
    have c5 := BX0 5 _ rfl
    have c6 := BX0 6 _ rfl
    have c7 := BX0 7 _ rfl
    have c8 := BX0 8 _ rfl
    have c9 := BX0 9 _ rfl
    have c10 := BX0 10 _ rfl
    have c11 := BX0 11 _ rfl
    have c12 := BX0 12 _ rfl
    have c13 := BX0 13 _ rfl
    rw [HK.out] at c0
    clear BX0
    go_upto_region 2 with fail
    simp only [List.append]
    go_wp2_with fail
    go_ret
    exact ⟨rfl, HBL.out⟩
  · cases t3 : zeroE s.b
    · rw [t3] at HB
      go_enter Tryz.func54, Tryz.ntmps54
      go_wp2_with fail
      refine (HC.out _).mono ?_
      rintro e w1 ⟨rfl, hb1⟩
      have BX : Hid (BoxS w1 w.heap.size s) := BXN.out.below hb1 (by simp)
      have hbl : Below w.heap.size w w1 := hb0.trans (hb1.mono (by simp))
      have hs1 : w.heap.size < w1.heap.size := by have := hb1.size; simp at this; omega
      clear hb1
      have HBL : Hid (Below w.heap.size w (w1.alloc (.cells #[.bool true, .bool false, .bool true, .bool false, .bool false, .bool false, .bool false] 95))) := hbl.alloc (by omega) _
      have BX0 := BX.out
      have c0 := BX0 0 _ rfl
      have c1 := BX0 1 _ rfl
      have c2 := BX0 2 _ rfl
      have c3 := BX0 3 _ rfl
      have c4 := BX0 4 _ rfl
      have c5 := BX0 5 _ rfl
      have c6 := BX0 6 _ rfl
      have c7 := BX0 7 _ rfl
      have c8 := BX0 8 _ rfl
      have c9 := BX0 9 _ rfl
      have c10 := BX0 10 _ rfl
      have c11 := BX0 11 _ rfl
      have c12 := BX0 12 _ rfl
      have c13 := BX0 13 _ rfl
      rw [HK.out] at c0
      clear BX0
      go_upto_region 2 with fail
      simp only [List.append]
      go_wp2_with fail
      refine (HB.out _).mono ?_
      rintro e w2 ⟨rfl, hbc2⟩
      have CA : Hid (∀ (i : Nat) v, ([.bool true, .bool false, .bool true, .bool false, .bool false, .bool false, .bool false] : List Value)[i]? = some v → w2.cell? ⟨w1.heap.size, i, none⟩ = some v) := fun i v h => (hbc2.cell (p := ⟨w1.heap.size, i, none⟩) (by simp)).trans (by rw [World.cell?_alloc_at _ _ _ _ rfl]; simpa using h)
      have BY : Hid (BoxS w2 w.heap.size s) := BoxS.below (fun i v h => (World.cell?_alloc_past _ _ _ hs1).trans (BX.out i v h)) hbc2 (by simp; omega)
      have HBM : Hid (Below w.heap.size w w2) := HBL.out.trans (hbc2.mono (by simp; omega))
      have hs2 : w1.heap.size < w2.heap.size := by have := hbc2.size; simp at this; omega
      clear hbc2 c0 c1 c2 c3 c4 c5 c6 c7 c8 c9 c10 c11 c12 c13
      have CA0 := CA.out
      have BY0 := BY.out
      have d0 := CA0 0 _ rfl
      have d1 := CA0 1 _ rfl
      have d2 := CA0 2 _ rfl
      have d3 := CA0 3 _ rfl
      have d4 := CA0 4 _ rfl
      have d5 := CA0 5 _ rfl
      have d6 := CA0 6 _ rfl
      have c0 := BY0 0 _ rfl
      have c1 := BY0 1 _ rfl
      have c2 := BY0 2 _ rfl
      have c3 := BY0 3 _ rfl
      have c4 := BY0 4 _ rfl
      have c5 := BY0 5 _ rfl
      have c6 := BY0 6 _ rfl
      have c7 := BY0 7 _ rfl
      have c8 := BY0 8 _ rfl
      have c9 := BY0 9 _ rfl
      have c10 := BY0 10 _ rfl
      have c11 := BY0 11 _ rfl
      have c12 := BY0 12 _ rfl
      have c13 := BY0 13 _ rfl
      rw [HK.out] at c0
      clear CA0 BY0
      go_wp2_with fail
      go_ret
      exact ⟨rfl, HBM.out⟩
    · rw [t3] at HB
      cases t4 : ((s.body.length : Int) == 0)
      · go_enter Tryz.func54, Tryz.ntmps54
        go_wp2_with fail
        refine (HC.out _).mono ?_
        rintro e w1 ⟨rfl, hb1⟩
        have BX : Hid (BoxS w1 w.heap.size s) := BXN.out.below hb1 (by simp)
        have hbl : Below w.heap.size w w1 := hb0.trans (hb1.mono (by simp))
        have hs1 : w.heap.size < w1.heap.size := by have := hb1.size; simp at this; omega
        clear hb1
        have HBL : Hid (Below w.heap.size w (w1.alloc (.cells #[.bool true, .bool false, .bool true, .bool false, .bool false, .bool false, .bool false] 95))) := hbl.alloc (by omega) _
        have BX0 := BX.out
        have c0 := BX0 0 _ rfl
        have c1 := BX0 1 _ rfl
        have c2 := BX0 2 _ rfl
        have c3 := BX0 3 _ rfl
        have c4 := BX0 4 _ rfl
        have c5 := BX0 5 _ rfl
        have c6 := BX0 6 _ rfl
        have c7 := BX0 7 _ rfl
        have c8 := BX0 8 _ rfl
        have c9 := BX0 9 _ rfl
        have c10 := BX0 10 _ rfl
        have c11 := BX0 11 _ rfl
        have c12 := BX0 12 _ rfl
        have c13 := BX0 13 _ rfl
        rw [HK.out] at c0
        clear BX0
        go_upto_region 2 with fail
        simp only [List.append]
        go_wp2_with fail
        refine (HB.out _).mono ?_
        rintro e w2 ⟨rfl, hbc2⟩
        have CA : Hid (∀ (i : Nat) v, ([.bool true, .bool false, .bool true, .bool false, .bool false, .bool false, .bool false] : List Value)[i]? = some v → w2.cell? ⟨w1.heap.size, i, none⟩ = some v) := fun i v h => (hbc2.cell (p := ⟨w1.heap.size, i, none⟩) (by simp)).trans (by rw [World.cell?_alloc_at _ _ _ _ rfl]; simpa using h)
        have BY : Hid (BoxS w2 w.heap.size s) := BoxS.below (fun i v h => (World.cell?_alloc_past _ _ _ hs1).trans (BX.out i v h)) hbc2 (by simp; omega)
        have HBM : Hid (Below w.heap.size w w2) := HBL.out.trans (hbc2.mono (by simp; omega))
        have hs2 : w1.heap.size < w2.heap.size := by have := hbc2.size; simp at this; omega
        clear hbc2 c0 c1 c2 c3 c4 c5 c6 c7 c8 c9 c10 c11 c12 c13
        have CA0 := CA.out
        have BY0 := BY.out
        have d0 := CA0 0 _ rfl
        have d1 := CA0 1 _ rfl
        have d2 := CA0 2 _ rfl
        have d3 := CA0 3 _ rfl
        have d4 := CA0 4 _ rfl
        have d5 := CA0 5 _ rfl
        have d6 := CA0 6 _ rfl
        have c0 := BY0 0 _ rfl
        have c1 := BY0 1 _ rfl
        have c2 := BY0 2 _ rfl
        have c3 := BY0 3 _ rfl
        have c4 := BY0 4 _ rfl
        have c5 := BY0 5 _ rfl
        have c6 := BY0 6 _ rfl
        have c7 := BY0 7 _ rfl
        have c8 := BY0 8 _ rfl
        have c9 := BY0 9 _ rfl
        have c10 := BY0 10 _ rfl
        have c11 := BY0 11 _ rfl
        have c12 := BY0 12 _ rfl
        have c13 := BY0 13 _ rfl
        rw [HK.out] at c0
        clear CA0 BY0
        go_wp2_with fail
        go_ret
        exact ⟨rfl, HBM.out⟩
      · cases t5 : ((s.els.length : Int) == 0)
        · go_enter Tryz.func54, Tryz.ntmps54
          go_wp2_with fail
          refine (HC.out _).mono ?_
          rintro e w1 ⟨rfl, hb1⟩
          have BX : Hid (BoxS w1 w.heap.size s) := BXN.out.below hb1 (by simp)
          have hbl : Below w.heap.size w w1 := hb0.trans (hb1.mono (by simp))
          have hs1 : w.heap.size < w1.heap.size := by have := hb1.size; simp at this; omega
          clear hb1
          have HBL : Hid (Below w.heap.size w (w1.alloc (.cells #[.bool true, .bool false, .bool true, .bool false, .bool false, .bool false, .bool false] 95))) := hbl.alloc (by omega) _
          have BX0 := BX.out
          have c0 := BX0 0 _ rfl
          have c1 := BX0 1 _ rfl
          have c2 := BX0 2 _ rfl
          have c3 := BX0 3 _ rfl
          have c4 := BX0 4 _ rfl
          have c5 := BX0 5 _ rfl
          have c6 := BX0 6 _ rfl
          have c7 := BX0 7 _ rfl
          have c8 := BX0 8 _ rfl
          have c9 := BX0 9 _ rfl
          have c10 := BX0 10 _ rfl
          have c11 := BX0 11 _ rfl
          have c12 := BX0 12 _ rfl
          have c13 := BX0 13 _ rfl
          rw [HK.out] at c0
          clear BX0
          go_upto_region 2 with fail
          simp only [List.append]
          go_wp2_with fail
          refine (HB.out _).mono ?_
          rintro e w2 ⟨rfl, hbc2⟩
          have CA : Hid (∀ (i : Nat) v, ([.bool true, .bool false, .bool true, .bool false, .bool false, .bool false, .bool false] : List Value)[i]? = some v → w2.cell? ⟨w1.heap.size, i, none⟩ = some v) := fun i v h => (hbc2.cell (p := ⟨w1.heap.size, i, none⟩) (by simp)).trans (by rw [World.cell?_alloc_at _ _ _ _ rfl]; simpa using h)
          have BY : Hid (BoxS w2 w.heap.size s) := BoxS.below (fun i v h => (World.cell?_alloc_past _ _ _ hs1).trans (BX.out i v h)) hbc2 (by simp; omega)
          have HBM : Hid (Below w.heap.size w w2) := HBL.out.trans (hbc2.mono (by simp; omega))
          have hs2 : w1.heap.size < w2.heap.size := by have := hbc2.size; simp at this; omega
          clear hbc2 c0 c1 c2 c3 c4 c5 c6 c7 c8 c9 c10 c11 c12 c13
          have CA0 := CA.out
          have BY0 := BY.out
          have d0 := CA0 0 _ rfl
          have d1 := CA0 1 _ rfl
          have d2 := CA0 2 _ rfl
          have d3 := CA0 3 _ rfl
          have d4 := CA0 4 _ rfl
          have d5 := CA0 5 _ rfl
          have d6 := CA0 6 _ rfl
          have c0 := BY0 0 _ rfl
          have c1 := BY0 1 _ rfl
          have c2 := BY0 2 _ rfl
          have c3 := BY0 3 _ rfl
          have c4 := BY0 4 _ rfl
          have c5 := BY0 5 _ rfl
          have c6 := BY0 6 _ rfl
          have c7 := BY0 7 _ rfl
          have c8 := BY0 8 _ rfl
          have c9 := BY0 9 _ rfl
          have c10 := BY0 10 _ rfl
          have c11 := BY0 11 _ rfl
          have c12 := BY0 12 _ rfl
          have c13 := BY0 13 _ rfl
          rw [HK.out] at c0
          clear CA0 BY0
          go_wp2_with fail
          go_ret
          exact ⟨rfl, HBM.out⟩
        · cases t6 : ((s.cases.length : Int) == 0)
          · go_enter Tryz.func54, Tryz.ntmps54
            go_wp2_with fail
            refine (HC.out _).mono ?_
            rintro e w1 ⟨rfl, hb1⟩
            have BX : Hid (BoxS w1 w.heap.size s) := BXN.out.below hb1 (by simp)
            have hbl : Below w.heap.size w w1 := hb0.trans (hb1.mono (by simp))
            have hs1 : w.heap.size < w1.heap.size := by have := hb1.size; simp at this; omega
            clear hb1
            have HBL : Hid (Below w.heap.size w (w1.alloc (.cells #[.bool true, .bool false, .bool true, .bool false, .bool false, .bool false, .bool false] 95))) := hbl.alloc (by omega) _
            have BX0 := BX.out
            have c0 := BX0 0 _ rfl
            have c1 := BX0 1 _ rfl
            have c2 := BX0 2 _ rfl
            have c3 := BX0 3 _ rfl
            have c4 := BX0 4 _ rfl
            have c5 := BX0 5 _ rfl
            have c6 := BX0 6 _ rfl
            have c7 := BX0 7 _ rfl
            have c8 := BX0 8 _ rfl
            have c9 := BX0 9 _ rfl
            have c10 := BX0 10 _ rfl
            have c11 := BX0 11 _ rfl
            have c12 := BX0 12 _ rfl
            have c13 := BX0 13 _ rfl
            rw [HK.out] at c0
            clear BX0
            go_upto_region 2 with fail
            simp only [List.append]
            go_wp2_with fail
            refine (HB.out _).mono ?_
            rintro e w2 ⟨rfl, hbc2⟩
            have CA : Hid (∀ (i : Nat) v, ([.bool true, .bool false, .bool true, .bool false, .bool false, .bool false, .bool false] : List Value)[i]? = some v → w2.cell? ⟨w1.heap.size, i, none⟩ = some v) := fun i v h => (hbc2.cell (p := ⟨w1.heap.size, i, none⟩) (by simp)).trans (by rw [World.cell?_alloc_at _ _ _ _ rfl]; simpa using h)
            have BY : Hid (BoxS w2 w.heap.size s) := BoxS.below (fun i v h => (World.cell?_alloc_past _ _ _ hs1).trans (BX.out i v h)) hbc2 (by simp; omega)
            have HBM : Hid (Below w.heap.size w w2) := HBL.out.trans (hbc2.mono (by simp; omega))
            have hs2 : w1.heap.size < w2.heap.size := by have := hbc2.size; simp at this; omega
            clear hbc2 c0 c1 c2 c3 c4 c5 c6 c7 c8 c9 c10 c11 c12 c13
            have CA0 := CA.out
            have BY0 := BY.out
            have d0 := CA0 0 _ rfl
            have d1 := CA0 1 _ rfl
            have d2 := CA0 2 _ rfl
            have d3 := CA0 3 _ rfl
            have d4 := CA0 4 _ rfl
            have d5 := CA0 5 _ rfl
            have d6 := CA0 6 _ rfl
            have c0 := BY0 0 _ rfl
            have c1 := BY0 1 _ rfl
            have c2 := BY0 2 _ rfl
            have c3 := BY0 3 _ rfl
            have c4 := BY0 4 _ rfl
            have c5 := BY0 5 _ rfl
            have c6 := BY0 6 _ rfl
            have c7 := BY0 7 _ rfl
            have c8 := BY0 8 _ rfl
            have c9 := BY0 9 _ rfl
            have c10 := BY0 10 _ rfl
            have c11 := BY0 11 _ rfl
            have c12 := BY0 12 _ rfl
            have c13 := BY0 13 _ rfl
            rw [HK.out] at c0
            clear CA0 BY0
            go_wp2_with fail
            go_ret
            exact ⟨rfl, HBM.out⟩
          · go_enter Tryz.func54, Tryz.ntmps54
            go_wp2_with fail
            refine (HC.out _).mono ?_
            rintro e w1 ⟨rfl, hb1⟩
            have BX : Hid (BoxS w1 w.heap.size s) := BXN.out.below hb1 (by simp)
            have hbl : Below w.heap.size w w1 := hb0.trans (hb1.mono (by simp))
            have hs1 : w.heap.size < w1.heap.size := by have := hb1.size; simp at this; omega
            clear hb1
            have HBL : Hid (Below w.heap.size w (w1.alloc (.cells #[.bool true, .bool false, .bool true, .bool false, .bool false, .bool false, .bool false] 95))) := hbl.alloc (by omega) _
            have BX0 := BX.out
            have c0 := BX0 0 _ rfl
            have c1 := BX0 1 _ rfl
            have c2 := BX0 2 _ rfl
            have c3 := BX0 3 _ rfl
            have c4 := BX0 4 _ rfl
            have c5 := BX0 5 _ rfl
            have c6 := BX0 6 _ rfl
            have c7 := BX0 7 _ rfl
            have c8 := BX0 8 _ rfl
            have c9 := BX0 9 _ rfl
            have c10 := BX0 10 _ rfl
            have c11 := BX0 11 _ rfl
            have c12 := BX0 12 _ rfl
            have c13 := BX0 13 _ rfl
            rw [HK.out] at c0
            clear BX0
            go_upto_region 2 with fail
            simp only [List.append]
            go_wp2_with fail
            refine (HB.out _).mono ?_
            rintro e w2 ⟨rfl, hbc2⟩
            have CA : Hid (∀ (i : Nat) v, ([.bool true, .bool false, .bool true, .bool false, .bool false, .bool false, .bool false] : List Value)[i]? = some v → w2.cell? ⟨w1.heap.size, i, none⟩ = some v) := fun i v h => (hbc2.cell (p := ⟨w1.heap.size, i, none⟩) (by simp)).trans (by rw [World.cell?_alloc_at _ _ _ _ rfl]; simpa using h)
            have BY : Hid (BoxS w2 w.heap.size s) := BoxS.below (fun i v h => (World.cell?_alloc_past _ _ _ hs1).trans (BX.out i v h)) hbc2 (by simp; omega)
            have HBM : Hid (Below w.heap.size w w2) := HBL.out.trans (hbc2.mono (by simp; omega))
            have hs2 : w1.heap.size < w2.heap.size := by have := hbc2.size; simp at this; omega
            clear hbc2 c0 c1 c2 c3 c4 c5 c6 c7 c8 c9 c10 c11 c12 c13
            have CA0 := CA.out
            have BY0 := BY.out
            have d0 := CA0 0 _ rfl
            have d1 := CA0 1 _ rfl
            have d2 := CA0 2 _ rfl
            have d3 := CA0 3 _ rfl
            have d4 := CA0 4 _ rfl
            have d5 := CA0 5 _ rfl
            have d6 := CA0 6 _ rfl
            have c0 := BY0 0 _ rfl
            have c1 := BY0 1 _ rfl
            have c2 := BY0 2 _ rfl
            have c3 := BY0 3 _ rfl
            have c4 := BY0 4 _ rfl
            have c5 := BY0 5 _ rfl
            have c6 := BY0 6 _ rfl
            have c7 := BY0 7 _ rfl
            have c8 := BY0 8 _ rfl
            have c9 := BY0 9 _ rfl
            have c10 := BY0 10 _ rfl
            have c11 := BY0 11 _ rfl
            have c12 := BY0 12 _ rfl
            have c13 := BY0 13 _ rfl
            rw [HK.out] at c0
            clear CA0 BY0
            go_wp2_with fail
            go_ret
            exact ⟨rfl, HBM.out⟩
set_option maxRecDepth 100000 in
set_option maxHeartbeats 4000000 in
theorem formed_5 (s : St) (w : World) (hk : s.kind = 5) : Calls Tryz.prog 54 #[s.val] w fun e w' => e = .returned (.bool ((s.name.toList == []) && (s.n == 0) && zeroE s.b && ((s.cases.length : Int) == 0))) ∧ Below w.heap.size w w' := by
  have HC : Hid (∀ w, Calls Tryz.prog 53 #[.int .i64 5] w fun e w' => e = .returned (.agg #[.bool false, .bool false, .bool true, .bool false, .bool true, .bool true, .bool false]) ∧ Below w.heap.size w w') := fun w => counts_any 5 w
  have HA : Hid (∀ w, Calls Tryz.prog 77 #[s.a.val] w fun e w' => e = .returned (.bool (zeroE s.a)) ∧ Below w.heap.size w w') := fun w => rzero_any s.a w
  have HB : Hid (∀ w, Calls Tryz.prog 77 #[s.b.val] w fun e w' => e = .returned (.bool (zeroE s.b)) ∧ Below w.heap.size w w') := fun w => rzero_any s.b w
  have hb0 := (Below.refl _ w).alloc (Nat.le_refl _) (.cells #[.int .i64 s.kind, .string s.name, .int .i64 s.n, .int .i64 s.a.kind, .int .i64 s.a.n, .string s.a.name, .slice s.a.a s.a.args.length s.a.cap, .int .i64 s.b.kind, .int .i64 s.b.n, .string s.b.name, .slice s.b.a s.b.args.length s.b.cap, .slice s.ba s.body.length s.bc, .slice s.ea s.els.length s.ec, .slice s.ca s.cases.length s.cc] 43)
  have BXN : Hid (BoxS _ w.heap.size s) := boxS_new w s
  unfold St.val
  unfold Ex.val at HA HB
  rw [hk] at BXN hb0 ⊢
  have HK : Hid (s.kind = 5) := hk
  clear hk
  cases t0 : (s.name.toList == [])
  · go_enter Tryz.func54, Tryz.ntmps54
    go_wp2_with fail
    refine (HC.out _).mono ?_
    rintro e w1 ⟨rfl, hb1⟩
    have BX : Hid (BoxS w1 w.heap.size s) := BXN.out.below hb1 (by simp)
    have hbl : Below w.heap.size w w1 := hb0.trans (hb1.mono (by simp))
    have hs1 : w.heap.size < w1.heap.size := by have := hb1.size; simp at this; omega
    clear hb1
    have HBL : Hid (Below w.heap.size w (w1.alloc (.cells #[.bool false, .bool false, .bool true, .bool false, .bool true, .bool true, .bool false] 95))) := hbl.alloc (by omega) _
    have BX0 := BX.out
    have c0 := BX0 0 _ rfl
    have c1 := BX0 1 _ rfl
    have c2 := BX0 2 _ rfl
    have c3 := BX0 3 _ rfl
    have c4 := BX0 4 _ rfl
    have c5 := BX0 5 _ rfl
    have c6 := BX0 6 _ rfl
    have c7 := BX0 7 _ rfl
    have c8 := BX0 8 _ rfl
    have c9 := BX0 9 _ rfl
    have c10 := BX0 10 _ rfl
    have c11 := BX0 11 _ rfl
    have c12 := BX0 12 _ rfl
    have c13 := BX0 13 _ rfl
    rw [HK.out] at c0
    clear BX0
    go_upto_region 2 with fail
    simp only [List.append]
    go_wp2_with fail
    go_ret
    exact ⟨rfl, HBL.out⟩
  · cases t1 : (s.n == 0)
    · go_enter Tryz.func54, Tryz.ntmps54
      go_wp2_with fail
      refine (HC.out _).mono ?_
      rintro e w1 ⟨rfl, hb1⟩
      have BX : Hid (BoxS w1 w.heap.size s) := BXN.out.below hb1 (by simp)
      have hbl : Below w.heap.size w w1 := hb0.trans (hb1.mono (by simp))
      have hs1 : w.heap.size < w1.heap.size := by have := hb1.size; simp at this; omega
      clear hb1
      have HBL : Hid (Below w.heap.size w (w1.alloc (.cells #[.bool false, .bool false, .bool true, .bool false, .bool true, .bool true, .bool false] 95))) := hbl.alloc (by omega) _
      have BX0 := BX.out
      have c0 := BX0 0 _ rfl
      have c1 := BX0 1 _ rfl
      have c2 := BX0 2 _ rfl
      have c3 := BX0 3 _ rfl
      have c4 := BX0 4 _ rfl
      have c5 := BX0 5 _ rfl
      have c6 := BX0 6 _ rfl
      have c7 := BX0 7 _ rfl
      have c8 := BX0 8 _ rfl
      have c9 := BX0 9 _ rfl
      have c10 := BX0 10 _ rfl
      have c11 := BX0 11 _ rfl
      have c12 := BX0 12 _ rfl
      have c13 := BX0 13 _ rfl
      rw [HK.out] at c0
      clear BX0
      go_upto_region 2 with fail
      simp only [List.append]
      go_wp2_with fail
      go_ret
      exact ⟨rfl, HBL.out⟩
    · cases t3 : zeroE s.b
      · rw [t3] at HB
        go_enter Tryz.func54, Tryz.ntmps54
        go_wp2_with fail
        refine (HC.out _).mono ?_
        rintro e w1 ⟨rfl, hb1⟩
        have BX : Hid (BoxS w1 w.heap.size s) := BXN.out.below hb1 (by simp)
        have hbl : Below w.heap.size w w1 := hb0.trans (hb1.mono (by simp))
        have hs1 : w.heap.size < w1.heap.size := by have := hb1.size; simp at this; omega
        clear hb1
        have HBL : Hid (Below w.heap.size w (w1.alloc (.cells #[.bool false, .bool false, .bool true, .bool false, .bool true, .bool true, .bool false] 95))) := hbl.alloc (by omega) _
        have BX0 := BX.out
        have c0 := BX0 0 _ rfl
        have c1 := BX0 1 _ rfl
        have c2 := BX0 2 _ rfl
        have c3 := BX0 3 _ rfl
        have c4 := BX0 4 _ rfl
        have c5 := BX0 5 _ rfl
        have c6 := BX0 6 _ rfl
        have c7 := BX0 7 _ rfl
        have c8 := BX0 8 _ rfl
        have c9 := BX0 9 _ rfl
        have c10 := BX0 10 _ rfl
        have c11 := BX0 11 _ rfl
        have c12 := BX0 12 _ rfl
        have c13 := BX0 13 _ rfl
        rw [HK.out] at c0
        clear BX0
        go_upto_region 2 with fail
        simp only [List.append]
        go_wp2_with fail
        refine (HB.out _).mono ?_
        rintro e w2 ⟨rfl, hbc2⟩
        have CA : Hid (∀ (i : Nat) v, ([.bool false, .bool false, .bool true, .bool false, .bool true, .bool true, .bool false] : List Value)[i]? = some v → w2.cell? ⟨w1.heap.size, i, none⟩ = some v) := fun i v h => (hbc2.cell (p := ⟨w1.heap.size, i, none⟩) (by simp)).trans (by rw [World.cell?_alloc_at _ _ _ _ rfl]; simpa using h)
        have BY : Hid (BoxS w2 w.heap.size s) := BoxS.below (fun i v h => (World.cell?_alloc_past _ _ _ hs1).trans (BX.out i v h)) hbc2 (by simp; omega)
        have HBM : Hid (Below w.heap.size w w2) := HBL.out.trans (hbc2.mono (by simp; omega))
        have hs2 : w1.heap.size < w2.heap.size := by have := hbc2.size; simp at this; omega
        clear hbc2 c0 c1 c2 c3 c4 c5 c6 c7 c8 c9 c10 c11 c12 c13
        have CA0 := CA.out
        have BY0 := BY.out
        have d0 := CA0 0 _ rfl
        have d1 := CA0 1 _ rfl
        have d2 := CA0 2 _ rfl
        have d3 := CA0 3 _ rfl
        have d4 := CA0 4 _ rfl
        have d5 := CA0 5 _ rfl
        have d6 := CA0 6 _ rfl
        have c0 := BY0 0 _ rfl
        have c1 := BY0 1 _ rfl
        have c2 := BY0 2 _ rfl
        have c3 := BY0 3 _ rfl
        have c4 := BY0 4 _ rfl
        have c5 := BY0 5 _ rfl
        have c6 := BY0 6 _ rfl
        have c7 := BY0 7 _ rfl
        have c8 := BY0 8 _ rfl
        have c9 := BY0 9 _ rfl
        have c10 := BY0 10 _ rfl
        have c11 := BY0 11 _ rfl
        have c12 := BY0 12 _ rfl
        have c13 := BY0 13 _ rfl
        rw [HK.out] at c0
        clear CA0 BY0
        go_wp2_with fail
        go_ret
        exact ⟨rfl, HBM.out⟩
      · rw [t3] at HB
        cases t6 : ((s.cases.length : Int) == 0)
        · go_enter Tryz.func54, Tryz.ntmps54
          go_wp2_with fail
          refine (HC.out _).mono ?_
          rintro e w1 ⟨rfl, hb1⟩
          have BX : Hid (BoxS w1 w.heap.size s) := BXN.out.below hb1 (by simp)
          have hbl : Below w.heap.size w w1 := hb0.trans (hb1.mono (by simp))
          have hs1 : w.heap.size < w1.heap.size := by have := hb1.size; simp at this; omega
          clear hb1
          have HBL : Hid (Below w.heap.size w (w1.alloc (.cells #[.bool false, .bool false, .bool true, .bool false, .bool true, .bool true, .bool false] 95))) := hbl.alloc (by omega) _
          have BX0 := BX.out
          have c0 := BX0 0 _ rfl
          have c1 := BX0 1 _ rfl
          have c2 := BX0 2 _ rfl
          have c3 := BX0 3 _ rfl
          have c4 := BX0 4 _ rfl
          have c5 := BX0 5 _ rfl
          have c6 := BX0 6 _ rfl
          have c7 := BX0 7 _ rfl
          have c8 := BX0 8 _ rfl
          have c9 := BX0 9 _ rfl
          have c10 := BX0 10 _ rfl
          have c11 := BX0 11 _ rfl
          have c12 := BX0 12 _ rfl
          have c13 := BX0 13 _ rfl
          rw [HK.out] at c0
          clear BX0
          go_upto_region 2 with fail
          simp only [List.append]
          go_wp2_with fail
          refine (HB.out _).mono ?_
          rintro e w2 ⟨rfl, hbc2⟩
          have CA : Hid (∀ (i : Nat) v, ([.bool false, .bool false, .bool true, .bool false, .bool true, .bool true, .bool false] : List Value)[i]? = some v → w2.cell? ⟨w1.heap.size, i, none⟩ = some v) := fun i v h => (hbc2.cell (p := ⟨w1.heap.size, i, none⟩) (by simp)).trans (by rw [World.cell?_alloc_at _ _ _ _ rfl]; simpa using h)
          have BY : Hid (BoxS w2 w.heap.size s) := BoxS.below (fun i v h => (World.cell?_alloc_past _ _ _ hs1).trans (BX.out i v h)) hbc2 (by simp; omega)
          have HBM : Hid (Below w.heap.size w w2) := HBL.out.trans (hbc2.mono (by simp; omega))
          have hs2 : w1.heap.size < w2.heap.size := by have := hbc2.size; simp at this; omega
          clear hbc2 c0 c1 c2 c3 c4 c5 c6 c7 c8 c9 c10 c11 c12 c13
          have CA0 := CA.out
          have BY0 := BY.out
          have d0 := CA0 0 _ rfl
          have d1 := CA0 1 _ rfl
          have d2 := CA0 2 _ rfl
          have d3 := CA0 3 _ rfl
          have d4 := CA0 4 _ rfl
          have d5 := CA0 5 _ rfl
          have d6 := CA0 6 _ rfl
          have c0 := BY0 0 _ rfl
          have c1 := BY0 1 _ rfl
          have c2 := BY0 2 _ rfl
          have c3 := BY0 3 _ rfl
          have c4 := BY0 4 _ rfl
          have c5 := BY0 5 _ rfl
          have c6 := BY0 6 _ rfl
          have c7 := BY0 7 _ rfl
          have c8 := BY0 8 _ rfl
          have c9 := BY0 9 _ rfl
          have c10 := BY0 10 _ rfl
          have c11 := BY0 11 _ rfl
          have c12 := BY0 12 _ rfl
          have c13 := BY0 13 _ rfl
          rw [HK.out] at c0
          clear CA0 BY0
          go_wp2_with fail
          go_ret
          exact ⟨rfl, HBM.out⟩
        · go_enter Tryz.func54, Tryz.ntmps54
          go_wp2_with fail
          refine (HC.out _).mono ?_
          rintro e w1 ⟨rfl, hb1⟩
          have BX : Hid (BoxS w1 w.heap.size s) := BXN.out.below hb1 (by simp)
          have hbl : Below w.heap.size w w1 := hb0.trans (hb1.mono (by simp))
          have hs1 : w.heap.size < w1.heap.size := by have := hb1.size; simp at this; omega
          clear hb1
          have HBL : Hid (Below w.heap.size w (w1.alloc (.cells #[.bool false, .bool false, .bool true, .bool false, .bool true, .bool true, .bool false] 95))) := hbl.alloc (by omega) _
          have BX0 := BX.out
          have c0 := BX0 0 _ rfl
          have c1 := BX0 1 _ rfl
          have c2 := BX0 2 _ rfl
          have c3 := BX0 3 _ rfl
          have c4 := BX0 4 _ rfl
          have c5 := BX0 5 _ rfl
          have c6 := BX0 6 _ rfl
          have c7 := BX0 7 _ rfl
          have c8 := BX0 8 _ rfl
          have c9 := BX0 9 _ rfl
          have c10 := BX0 10 _ rfl
          have c11 := BX0 11 _ rfl
          have c12 := BX0 12 _ rfl
          have c13 := BX0 13 _ rfl
          rw [HK.out] at c0
          clear BX0
          go_upto_region 2 with fail
          simp only [List.append]
          go_wp2_with fail
          refine (HB.out _).mono ?_
          rintro e w2 ⟨rfl, hbc2⟩
          have CA : Hid (∀ (i : Nat) v, ([.bool false, .bool false, .bool true, .bool false, .bool true, .bool true, .bool false] : List Value)[i]? = some v → w2.cell? ⟨w1.heap.size, i, none⟩ = some v) := fun i v h => (hbc2.cell (p := ⟨w1.heap.size, i, none⟩) (by simp)).trans (by rw [World.cell?_alloc_at _ _ _ _ rfl]; simpa using h)
          have BY : Hid (BoxS w2 w.heap.size s) := BoxS.below (fun i v h => (World.cell?_alloc_past _ _ _ hs1).trans (BX.out i v h)) hbc2 (by simp; omega)
          have HBM : Hid (Below w.heap.size w w2) := HBL.out.trans (hbc2.mono (by simp; omega))
          have hs2 : w1.heap.size < w2.heap.size := by have := hbc2.size; simp at this; omega
          clear hbc2 c0 c1 c2 c3 c4 c5 c6 c7 c8 c9 c10 c11 c12 c13
          have CA0 := CA.out
          have BY0 := BY.out
          have d0 := CA0 0 _ rfl
          have d1 := CA0 1 _ rfl
          have d2 := CA0 2 _ rfl
          have d3 := CA0 3 _ rfl
          have d4 := CA0 4 _ rfl
          have d5 := CA0 5 _ rfl
          have d6 := CA0 6 _ rfl
          have c0 := BY0 0 _ rfl
          have c1 := BY0 1 _ rfl
          have c2 := BY0 2 _ rfl
          have c3 := BY0 3 _ rfl
          have c4 := BY0 4 _ rfl
          have c5 := BY0 5 _ rfl
          have c6 := BY0 6 _ rfl
          have c7 := BY0 7 _ rfl
          have c8 := BY0 8 _ rfl
          have c9 := BY0 9 _ rfl
          have c10 := BY0 10 _ rfl
          have c11 := BY0 11 _ rfl
          have c12 := BY0 12 _ rfl
          have c13 := BY0 13 _ rfl
          rw [HK.out] at c0
          clear CA0 BY0
          go_wp2_with fail
          go_ret
          exact ⟨rfl, HBM.out⟩
end Go.Proofs.YtbpemackmadhgaaGreatDoor
