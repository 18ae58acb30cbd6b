/- asm.row.take: a number. -/
import Derived.Test.YtboidkmnkicoeaaGreatDoorJi
namespace Go.Proofs.YtboidkmnkicoeaaGreatDoor
open Go.RowKit Go.Sort

theorem take20_more {ns : List Int} {x : Int} (h : ns.length < 20) : (ns ++ [x]).take 20 = ns.take 20 ++ [x] := by
  rw [List.take_of_length_le (by simp; omega), List.take_of_length_le (by omega)]
theorem take20_full {ns : List Int} {x : Int} (h : 20 ≤ ns.length) : (ns ++ [x]).take 20 = ns.take 20 := by
  rw [List.take_append_of_le_length h]
theorem RwAt.full {N b n : Nat} {r : Rs} {v : Value} {W : World} (h : RwAt N b n r v W) (x : Int) (hl : 20 ≤ r.ns.length) : RwAt N b n { r with ns := r.ns ++ [x] } v W :=
  ⟨h.bk, by rw [take20_full hl]; exact h.ow, h.nb⟩
/-- A number is put behind the others. -/
theorem RwAt.push {N b n : Nat} {r : Rs} {v v' : Value} {W W' : World} (h : RwAt N b n r v W) (x : Int) (hl : r.ns.length < 20) (o : Obj) (hg : (W.alloc o).grownBy W' v.ownBlock) (ho : W'.ownsRow N 2 1 v' ((r.ns.take 20).length + 1) ((r.ns.take 20).flatMap thC ++ [.int .i64 x])) :
    W'.heap[b]? = some (.cells #[.int .i64 n, .int .i64 r.words, .int .i64 r.kind, .string (tb r.name), v] 46) ∧ RwAt N b n { r with ns := r.ns ++ [x] } v' (W'.setCell ⟨b, 4, none⟩ v') := by
  have c1 := ((Below.one (Below.refl _ W) o).block _ (Array.getElem?_eq_some_iff.1 h.bk).1).trans h.bk
  have c2 := grown_other (h.ow.alloc o) hg c1 (by decide)
  refine ⟨c2, ?_, ?_, h.nb⟩
  · have := heap_setCell_same W' b 4 _ _ v' c2; simpa using this
  · have e : ((r.ns ++ [x]).take 20).length = (r.ns.take 20).length + 1 := by rw [take20_more hl]; simp
    rw [take20_more hl, List.flatMap_append, List.length_append]
    exact own_set ho c2 (by decide) _ _
theorem RwAt.row {N b n : Nat} {r : Rs} {v : Value} {W : World} (h : RwAt N b n r v W) : ∃ L av cv, r.ns.take 20 = L ∧ v = .slice av L.length cv := by
  obtain ⟨av, cv, rfl⟩ := gown_form h.ow
  exact ⟨_, av, cv, rfl, rfl⟩
theorem RwAt.own {N b n : Nat} {r : Rs} {v : Value} {W : World} (h : RwAt N b n r v W) {ns L : List Int} (e : r.ns = ns) (hL : ns.take 20 = L) : W.ownsRow N 2 1 v L.length (L.flatMap thC) := by
  subst e; subst hL; exact h.ow
theorem RwAt.push' {N b n : Nat} {r : Rs} {v v' : Value} {W W' : World} (h : RwAt N b n r v W) {ns L : List Int} (e : r.ns = ns) (hL : ns.take 20 = L) (x : Int) (hl : ns.length < 20) (o : Obj) (hg : (W.alloc o).grownBy W' v.ownBlock) (ho : W'.ownsRow N 2 1 v' (L.length + 1) (L.flatMap thC ++ [.int .i64 x])) :
    W'.heap[b]? = some (.cells #[.int .i64 n, .int .i64 r.words, .int .i64 r.kind, .string (tb r.name), v] 46) ∧ RwAt N b n { r with ns := r.ns ++ [x] } v' (W'.setCell ⟨b, 4, none⟩ v') := by
  subst e; subst hL; exact h.push x hl o hg ho
set_option maxRecDepth 100000 in
set_option maxHeartbeats 4000000 in
theorem take_num (N b n : Nat) (r : Rs) (v : Value) (l : Bt) (p : Nat) (w : World) (hE : ∀ w', Below N w w' → Env w') (hr : RwAt N b n r v w) (hN : N ≤ w.heap.size) (hl : l.length ≤ 281474976710656) (h0 : r.words ≠ 0) (hw : r.words ≤ 1000000000000000) (hn : ¬ (r.words = 1 ∧ r.kind = -2)) (hg : r.kind < 0 ∨ (0 ≤ r.kind ∧ r.kind ≤ 19 ∧ r.words ≤ (hasL r.kind).length)) :
    Calls Tryz.prog 10 #[.pointer (some ⟨b, 0, none⟩), .string (tb l), .int .i64 (p : Int)] w (TkP N b n v w (tkZ n r p l)) := by
  have hz : tkZ n r p l = match numB l with | none => .error (11, p) | some v => .ok ⟨r.words + 1, r.kind, r.name, r.ns ++ [v]⟩ := by
    unfold tkZ; rw [if_neg h0, if_neg hn, if_neg (by omega)]; cases numB l <;> rfl
  obtain ⟨i0, hi, hz0, hz1, hz2⟩ := info_parts Tryz.infoI
  have HI0 := Hid.mk' hi
  obtain ⟨L, av, cv, hL, rfl⟩ := hr.row
  have h1 := hr.more
  have hbN : Below N w (w.setCell ⟨b, 1, none⟩ (.int .i64 ((r.words : Int) + 1))) := (Below.refl N w).setCell hr.nb _
  have hsw : (w.setCell ⟨b, 1, none⟩ (.int .i64 ((r.words : Int) + 1))).heap.size = w.heap.size := by simp [World.setCell]
  have HNUM : Hid (∀ w', Below (w.setCell ⟨b, 1, none⟩ (.int .i64 ((r.words : Int) + 1))).heap.size (w.setCell ⟨b, 1, none⟩ (.int .i64 ((r.words : Int) + 1))) w' → Calls Tryz.prog 27 #[.string (tb l)] w' fun e w'' => e = .returned (nmV (numB l)) ∧ Below w'.heap.size w' w'') := fun w' hb => number_any l w' hl (hE w' (hbN.trans (hb.mono (by omega))))
  obtain ⟨c0, c1, c2, c3, c4⟩ := hr.cell
  obtain ⟨d0, d1, d2, d3, d4⟩ := h1.cell
  simp only at d2
  have d1 : (w.setCell ⟨b, 1, none⟩ (.int .i64 ((r.words : Int) + 1))).cell? ⟨b, 1, none⟩ = some (.int .i64 ((r.words : Int) + 1)) := by rw [d1]; rfl
  have f1 := hr.frozen 1
  have HR1 := Hid.mk' h1
  have HBN := Hid.mk' hbN
  have HZ := Hid.mk' hz
  have ht := third_of hn
  have hq1 : ((r.words : Int) + 1 == 1) = false := beq_no (by omega)
  have hnb := hr.nb
  have hnl : L.length ≤ 20 ∧ (r.ns.length < 20 → L.length < 20) ∧ (20 ≤ r.ns.length → L.length = 20) := by rw [← hL, List.length_take]; omega
  obtain ⟨hnl, hnl1, hnl2⟩ := hnl
  have HLL := Hid.mk' hL
  have HN1 := Hid.mk' hnl1
  have HN2 := Hid.mk' hnl2
  clear hnl1 hnl2 hL
  have hE2 := hE _ hbN
  have g1 := fun d os => cell_regrown d1 d os
  have g2 := fun d os => cell_regrown d2 d os
  have hgd : decide ((0 : Int) ≤ r.kind) = false ∧ True ∨ ∃ k : Nat, r.kind = k ∧ k < 20 ∧ r.words ≤ (fldB k).size ∧ (fldB k).size ≤ 4 := by
    rcases hg with hg | ⟨hg0, hg1, hg2⟩
    · exact .inl ⟨decide_eq_false (by omega), trivial⟩
    · refine .inr ⟨r.kind.toNat, by omega, by omega, ?_, ?_⟩
      · rw [fldB_size, show ((r.kind.toNat : Nat) : Int) = r.kind by omega]; exact hg2
      · rw [fldB_size]; unfold hasL; split <;> split <;> split <;> split <;> simp
  clear hz hr h1 c0 c2 c3 c4 d0 d3 d4 hbN hE hn hg hi hl h0
  generalize tkZ n r p l = Z at *
  generalize tb l = s at *
  have hfw : ∀ k : Nat, k < 20 → ∀ d os, (grow (redrawn (w.setCell ⟨b, 1, none⟩ (.int .i64 ((r.words : Int) + 1))) d) os).cell? ⟨0, k, none⟩ = some (.string (fldB k)) := fun k hk d os => cell_regrown (hE2.fl k hk) d os
  have HFW := Hid.mk' hfw
  clear hfw hE2
  generalize numB l = o at *
  rcases hgd with ⟨hkl, _⟩ | ⟨k, hk, hk20, hkw, hk4⟩
  · have g3 := HFW
    rcases o with _ | x
    · unfold nmV at HNUM
      simp only [Option.getD_none, Option.isSome_none] at HNUM HZ
      rcases ht with ht | ⟨ht, ht2⟩
      all_goals
        go_enter Tryz.func10, Tryz.ntmps10
        go_wp2_with fail
        refine wp_region_quiet_below (by kernel_rfl) (by kernel_rfl) ?_
        repeat (go_big_quiet_step (fail))
        refine wpQuiet_nil ?_
        rintro _ ⟨⟨dq, osq⟩, rfl⟩
        have B2 := below_regrown (w.setCell ⟨b, 1, none⟩ (.int .i64 ((r.words : Int) + 1))) dq osq
        have R2 := HR1.out.stay B2
        have BN2 : Below N w _ := HBN.out.trans (B2.mono (by omega))
        have F2 := Hid.mk' (((Foot.refl b (.slice av L.length cv) w).set 1 _).stay B2)
        clear g1 g2 g3
        generalize grow (redrawn (w.setCell ⟨b, 1, none⟩ (.int .i64 ((r.words : Int) + 1))) dq) osq = W2 at *
        have hs2 := BN2.size
        have HR2 := Hid.mk' R2
        have HBN2 := Hid.mk' BN2
        clear R2 BN2
        go_wp2_with fail
        refine (HNUM.out _ B2).mono ?_
        rintro e W3 ⟨rfl, hb3⟩
        go_wp2_with fail
        go_ret2
        exact TkP.err HZ.out rfl (HBN2.out.trans (hb3.mono (by omega))) (F2.out.stay hb3)

    · unfold nmV at HNUM
      simp only [Option.getD_some, Option.isSome_some] at HNUM HZ
      by_cases hln : r.ns.length < 20
      · have HLN := Hid.mk' hln
        have hlc : (L.length : Int) < 20 := by have := HN1.out hln; omega
        clear hln
        rcases ht with ht | ⟨ht, ht2⟩
        all_goals
          go_enter Tryz.func10, Tryz.ntmps10
          go_wp2_with fail
          refine wp_region_quiet_below (by kernel_rfl) (by kernel_rfl) ?_
          repeat (go_big_quiet_step (fail))
          refine wpQuiet_nil ?_
          rintro _ ⟨⟨dq, osq⟩, rfl⟩
          have B2 := below_regrown (w.setCell ⟨b, 1, none⟩ (.int .i64 ((r.words : Int) + 1))) dq osq
          have R2 := HR1.out.stay B2
          have BN2 : Below N w _ := HBN.out.trans (B2.mono (by omega))
          have F2 := Hid.mk' (((Foot.refl b (.slice av L.length cv) w).set 1 _).stay B2)
          clear g1 g2 g3
          generalize grow (redrawn (w.setCell ⟨b, 1, none⟩ (.int .i64 ((r.words : Int) + 1))) dq) osq = W2 at *
          have hs2 := BN2.size
          have HR2 := Hid.mk' R2
          have HBN2 := Hid.mk' BN2
          clear R2 BN2
          go_wp2_with fail
          refine (HNUM.out _ B2).mono ?_
          rintro e W3 ⟨rfl, hb3⟩
          have R3 := HR2.out.stay hb3
          obtain ⟨u0, u1, u2, u3, u4⟩ := R3.cell
          have HR3 := Hid.mk' R3
          have HO3 := Hid.mk' ((R3.own rfl HLL.out).alloc (.cells #[.int .i64 x] 2))
          have HNW := Hid.mk' (newsT W3 2 [.int .i64 x])
          have HB3 : Hid (Below N w W3) := HBN2.out.trans (hb3.mono (by omega))
          have HS3 : Hid (N ≤ (W3.alloc (.cells #[.int .i64 x] 2)).heap.size) := (by have := HB3.out.size; simp; omega : N ≤ _)
          have HPU := Hid.mk' (fun (W' : World) (v' : Value) => R3.push' (W' := W') (v' := v') rfl HLL.out x HLN.out (.cells #[.int .i64 x] 2))
          clear R3
          go_wp2_with (at_builtin; refine wpList_append_own _ rfl _ _ 22 rfl N 2 i0 (.int .i64 0) 1 8 Tryz.underlying22 HI0.out hz0 hz1 hz2 rfl (by decide) _ L.length _ rfl HO3.out ⟨W3.heap.size, 0, none⟩ 1 1 [.int .i64 x] rfl rfl HNW.out (by simp [Value.oneCell']) (by unfold maxLen; omega) (by omega) HS3.out ?_; intro v4 W4 own4 grow4 _; obtain ⟨a4, c4', rfl⟩ := gown_form own4; obtain ⟨bk4, R4⟩ := HPU.out _ _ grow4 own4; have x4 := cell_of_obj bk4 (j := 4) rfl; have z4 := Lib.frozen_of_heap bk4 4; have HR4 := Hid.mk' R4; clear R4 bk4)
          go_ret2
          have hB4 : Below N w W4 := (HB3.out.alloc (by have := HB3.out.size; omega) _).grown grow4 HS3.out (fun k e => own_base HO3.out k e)
          exact TkP.ok HZ.out (hB4.setCell hnb _) ((((F2.out.stay hb3).stay (Below.one (Below.refl _ W3) _)).grown grow4).set 4 _) HR4.out

      · have HLN : Hid (20 ≤ r.ns.length) := (by omega : 20 ≤ r.ns.length)
        have hlc : ¬ (L.length : Int) < 20 := by have := HN2.out HLN.out; omega
        clear hln
        rcases ht with ht | ⟨ht, ht2⟩
        all_goals
          go_enter Tryz.func10, Tryz.ntmps10
          go_wp2_with fail
          refine wp_region_quiet_below (by kernel_rfl) (by kernel_rfl) ?_
          repeat (go_big_quiet_step (fail))
          refine wpQuiet_nil ?_
          rintro _ ⟨⟨dq, osq⟩, rfl⟩
          have B2 := below_regrown (w.setCell ⟨b, 1, none⟩ (.int .i64 ((r.words : Int) + 1))) dq osq
          have R2 := HR1.out.stay B2
          have BN2 : Below N w _ := HBN.out.trans (B2.mono (by omega))
          have F2 := Hid.mk' (((Foot.refl b (.slice av L.length cv) w).set 1 _).stay B2)
          clear g1 g2 g3
          generalize grow (redrawn (w.setCell ⟨b, 1, none⟩ (.int .i64 ((r.words : Int) + 1))) dq) osq = W2 at *
          have hs2 := BN2.size
          have HR2 := Hid.mk' R2
          have HBN2 := Hid.mk' BN2
          clear R2 BN2
          go_wp2_with fail
          refine (HNUM.out _ B2).mono ?_
          rintro e W3 ⟨rfl, hb3⟩
          have R3 := HR2.out.stay hb3
          obtain ⟨u0, u1, u2, u3, u4⟩ := R3.cell
          have HR3 := Hid.mk' R3
          clear R3
          go_wp2_with fail
          go_ret2
          exact TkP.ok HZ.out (HBN2.out.trans (hb3.mono (by omega))) (F2.out.stay hb3) (HR3.out.full x HLN.out)

  · have g3 := HFW.out k hk20
    have hkl : decide ((0 : Int) ≤ (k : Int)) = true := decide_eq_true (by omega)
    have hkc : (k : Int) < 20 := by omega
    have hg1 : decide ((1 : Int) + ((fldB k).size : Int) < (r.words : Int) + 1) = false := decide_eq_false (by omega)
    have hw1 : IntKind.i64.wrap (1 + ((fldB k).size : Int)) = 1 + ((fldB k).size : Int) := by rw [IntKind.wrap_i64]; omega
    rw [hk] at g2 ht d2
    have HK := Hid.mk' hk
    clear hk hkw
    generalize fldB k = F at *
    rcases o with _ | x
    · unfold nmV at HNUM
      simp only [Option.getD_none, Option.isSome_none] at HNUM HZ
      rcases ht with ht | ⟨ht, ht2⟩
      all_goals
        go_enter Tryz.func10, Tryz.ntmps10
        go_wp2_with fail
        refine wp_region_quiet_below (by kernel_rfl) (by kernel_rfl) ?_
        repeat (go_big_quiet_step (fail))
        refine wpQuiet_nil ?_
        rintro _ ⟨⟨dq, osq⟩, rfl⟩
        have B2 := below_regrown (w.setCell ⟨b, 1, none⟩ (.int .i64 ((r.words : Int) + 1))) dq osq
        have R2 := HR1.out.stay B2
        have BN2 : Below N w _ := HBN.out.trans (B2.mono (by omega))
        have F2 := Hid.mk' (((Foot.refl b (.slice av L.length cv) w).set 1 _).stay B2)
        clear g1 g2 g3
        generalize grow (redrawn (w.setCell ⟨b, 1, none⟩ (.int .i64 ((r.words : Int) + 1))) dq) osq = W2 at *
        have hs2 := BN2.size
        have HR2 := Hid.mk' R2
        have HBN2 := Hid.mk' BN2
        clear R2 BN2
        go_wp2_with fail
        refine (HNUM.out _ B2).mono ?_
        rintro e W3 ⟨rfl, hb3⟩
        go_wp2_with fail
        go_ret2
        exact TkP.err HZ.out rfl (HBN2.out.trans (hb3.mono (by omega))) (F2.out.stay hb3)

    · unfold nmV at HNUM
      simp only [Option.getD_some, Option.isSome_some] at HNUM HZ
      by_cases hln : r.ns.length < 20
      · have HLN := Hid.mk' hln
        have hlc : (L.length : Int) < 20 := by have := HN1.out hln; omega
        clear hln
        rcases ht with ht | ⟨ht, ht2⟩
        all_goals
          go_enter Tryz.func10, Tryz.ntmps10
          go_wp2_with fail
          refine wp_region_quiet_below (by kernel_rfl) (by kernel_rfl) ?_
          repeat (go_big_quiet_step (fail))
          refine wpQuiet_nil ?_
          rintro _ ⟨⟨dq, osq⟩, rfl⟩
          have B2 := below_regrown (w.setCell ⟨b, 1, none⟩ (.int .i64 ((r.words : Int) + 1))) dq osq
          have R2 := HR1.out.stay B2
          have BN2 : Below N w _ := HBN.out.trans (B2.mono (by omega))
          have F2 := Hid.mk' (((Foot.refl b (.slice av L.length cv) w).set 1 _).stay B2)
          clear g1 g2 g3
          generalize grow (redrawn (w.setCell ⟨b, 1, none⟩ (.int .i64 ((r.words : Int) + 1))) dq) osq = W2 at *
          have hs2 := BN2.size
          have HR2 := Hid.mk' R2
          have HBN2 := Hid.mk' BN2
          clear R2 BN2
          go_wp2_with fail
          refine (HNUM.out _ B2).mono ?_
          rintro e W3 ⟨rfl, hb3⟩
          have R3 := HR2.out.stay hb3
          obtain ⟨u0, u1, u2, u3, u4⟩ := R3.cell
          have HR3 := Hid.mk' R3
          have HO3 := Hid.mk' ((R3.own rfl HLL.out).alloc (.cells #[.int .i64 x] 2))
          have HNW := Hid.mk' (newsT W3 2 [.int .i64 x])
          have HB3 : Hid (Below N w W3) := HBN2.out.trans (hb3.mono (by omega))
          have HS3 : Hid (N ≤ (W3.alloc (.cells #[.int .i64 x] 2)).heap.size) := (by have := HB3.out.size; simp; omega : N ≤ _)
          have HPU := Hid.mk' (fun (W' : World) (v' : Value) => R3.push' (W' := W') (v' := v') rfl HLL.out x HLN.out (.cells #[.int .i64 x] 2))
          clear R3
          go_wp2_with (at_builtin; refine wpList_append_own _ rfl _ _ 22 rfl N 2 i0 (.int .i64 0) 1 8 Tryz.underlying22 HI0.out hz0 hz1 hz2 rfl (by decide) _ L.length _ rfl HO3.out ⟨W3.heap.size, 0, none⟩ 1 1 [.int .i64 x] rfl rfl HNW.out (by simp [Value.oneCell']) (by unfold maxLen; omega) (by omega) HS3.out ?_; intro v4 W4 own4 grow4 _; obtain ⟨a4, c4', rfl⟩ := gown_form own4; obtain ⟨bk4, R4⟩ := HPU.out _ _ grow4 own4; have x4 := cell_of_obj bk4 (j := 4) rfl; have z4 := Lib.frozen_of_heap bk4 4; have HR4 := Hid.mk' R4; clear R4 bk4)
          go_ret2
          have hB4 : Below N w W4 := (HB3.out.alloc (by have := HB3.out.size; omega) _).grown grow4 HS3.out (fun k e => own_base HO3.out k e)
          exact TkP.ok HZ.out (hB4.setCell hnb _) ((((F2.out.stay hb3).stay (Below.one (Below.refl _ W3) _)).grown grow4).set 4 _) HR4.out

      · have HLN : Hid (20 ≤ r.ns.length) := (by omega : 20 ≤ r.ns.length)
        have hlc : ¬ (L.length : Int) < 20 := by have := HN2.out HLN.out; omega
        clear hln
        rcases ht with ht | ⟨ht, ht2⟩
        all_goals
          go_enter Tryz.func10, Tryz.ntmps10
          go_wp2_with fail
          refine wp_region_quiet_below (by kernel_rfl) (by kernel_rfl) ?_
          repeat (go_big_quiet_step (fail))
          refine wpQuiet_nil ?_
          rintro _ ⟨⟨dq, osq⟩, rfl⟩
          have B2 := below_regrown (w.setCell ⟨b, 1, none⟩ (.int .i64 ((r.words : Int) + 1))) dq osq
          have R2 := HR1.out.stay B2
          have BN2 : Below N w _ := HBN.out.trans (B2.mono (by omega))
          have F2 := Hid.mk' (((Foot.refl b (.slice av L.length cv) w).set 1 _).stay B2)
          clear g1 g2 g3
          generalize grow (redrawn (w.setCell ⟨b, 1, none⟩ (.int .i64 ((r.words : Int) + 1))) dq) osq = W2 at *
          have hs2 := BN2.size
          have HR2 := Hid.mk' R2
          have HBN2 := Hid.mk' BN2
          clear R2 BN2
          go_wp2_with fail
          refine (HNUM.out _ B2).mono ?_
          rintro e W3 ⟨rfl, hb3⟩
          have R3 := HR2.out.stay hb3
          obtain ⟨u0, u1, u2, u3, u4⟩ := R3.cell
          have HR3 := Hid.mk' R3
          clear R3
          go_wp2_with fail
          go_ret2
          exact TkP.ok HZ.out (HBN2.out.trans (hb3.mono (by omega))) (F2.out.stay hb3) (HR3.out.full x HLN.out)

end Go.Proofs.YtboidkmnkicoeaaGreatDoor

/- asm.row.take, whole; asm.row.whole. -/
namespace Go.Proofs.YtboidkmnkicoeaaGreatDoor
open Go.RowKit Go.Sort

def KOk (r : Rs) : Prop := r.words = 0 ∨ r.kind = -1 ∨ r.kind = -2 ∨ (0 ≤ r.kind ∧ r.kind ≤ 19)
theorem opN_lt (w : Bt) : ∀ (k j i : Nat), opN w k j = some i → i < j + k
  | 0, j, i, h => by cases h
  | k + 1, j, i, h => by
    rw [opN] at h
    split at h
    · injection h with h; omega
    · have := opN_lt w k (j + 1) i h; omega
theorem bgZ_kind {n : Nat} {l : Bt} (h : (bgZ n l).1 = 0) : (bgZ n l).2 = -1 ∨ (bgZ n l).2 = -2 ∨ (0 ≤ (bgZ n l).2 ∧ (bgZ n l).2 ≤ 19) := by
  unfold bgZ at h ⊢
  by_cases h1 : n = 1 ∧ l = widenB
  · rw [if_pos h1]; exact .inl rfl
  · rw [if_neg h1] at h ⊢
    by_cases h2 : n ≠ 1 ∧ l = funcB
    · rw [if_pos h2]; exact .inr (.inl rfl)
    · rw [if_neg h2] at h ⊢
      by_cases h3 : n ≤ 2
      · rw [if_pos h3] at h; cases h
      · rw [if_neg h3] at h ⊢
        cases ho : opOf l with
        | none => rw [ho] at h; cases h
        | some k =>
          have := opN_lt l 20 0 k ho
          exact .inr (.inr ⟨by simp only; omega, by simp only; omega⟩)
theorem tkZ_ok {n p : Nat} {r r' : Rs} {l : Bt} (h : tkZ n r p l = .ok r') (hk : KOk r) : KOk r' ∧ r'.words = r.words + 1 := by
  unfold tkZ at h
  by_cases h0 : r.words = 0
  · rw [if_pos h0] at h
    by_cases h1 : (bgZ n l).1 = 0
    · rw [if_pos h1] at h
      injection h with h
      subst h
      exact ⟨.inr (bgZ_kind h1), by simp only [h0]⟩
    · rw [if_neg h1] at h; cases h
  · have hk' := hk.resolve_left h0
    rw [if_neg h0] at h
    by_cases h1 : r.words = 1 ∧ r.kind = -2
    · rw [if_pos h1] at h
      injection h with h
      subst h
      exact ⟨.inr hk', by simp only [h1.1]⟩
    · rw [if_neg h1] at h
      by_cases h2 : 0 ≤ r.kind ∧ (hasL r.kind).length < r.words
      · rw [if_pos h2] at h; cases h
      · rw [if_neg h2] at h
        cases hn : numB l with
        | none => rw [hn] at h; cases h
        | some v =>
          rw [hn] at h
          injection h with h
          subst h
          exact ⟨.inr hk', rfl⟩
theorem take_any (N b n : Nat) (r : Rs) (v : Value) (l : Bt) (p : Nat) (w : World) (hE : ∀ w', Below N w w' → Env w') (hr : RwAt N b n r v w) (hN : N ≤ w.heap.size) (hl : l.length ≤ 281474976710656) (hn1 : 1 ≤ n) (hn2 : n ≤ 9223372036854775807) (hk : KOk r) (hw : r.words ≤ 1000000000000000) (hp : r.words ≠ 0 → 1 ≤ p) (hp2 : p ≤ 1000000000000000) :
    Calls Tryz.prog 10 #[.pointer (some ⟨b, 0, none⟩), .string (tb l), .int .i64 (p : Int)] w (TkP N b n v w (tkZ n r p l)) := by
  by_cases h0 : r.words = 0
  · exact take_first N b n r v l p w hE hr hN hn1 hn2 h0
  · by_cases h1 : r.words = 1 ∧ r.kind = -2
    · exact take_name N b n r v l p w hr hN hl h1.1 h1.2
    · have hk' := hk.resolve_left h0
      by_cases h2 : 0 ≤ r.kind ∧ (hasL r.kind).length < r.words
      · exact take_rest N b n r v l p w hE hr hN h0 hw h1 (hp h0) hp2 h2.1 (by omega) h2.2
      · exact take_num N b n r v l p w hE hr hN hl h0 hw h1 (by omega)
set_option maxRecDepth 100000 in
set_option maxHeartbeats 2000000 in
theorem whole_any (N b n : Nat) (r : Rs) (v : Value) (w : World) (h : Env w) (hr : RwAt N b n r v w) (hk : r.kind = -1 ∨ r.kind = -2 ∨ (0 ≤ r.kind ∧ r.kind ≤ 19)) (hw : r.words ≤ 1000000000000000) :
    Calls Tryz.prog 11 #[.pointer (some ⟨b, 0, none⟩)] w fun e w' => e = .returned (.bool (whole r)) ∧ Below w.heap.size w w' := by
  obtain ⟨c0, c1, c2, c3, c4⟩ := hr.cell
  clear hr c0 c3 c4
  rcases hk with hk | hk | ⟨hk0, hk1⟩
  · have hz : whole r = true := by unfold whole; rw [if_pos hk]
    rw [hz]
    rw [hk] at c2
    clear hz hk h
    go_enter Tryz.func11, Tryz.ntmps11
    go_wp2_with fail
    go_ret
    exact ⟨rfl, Below.refl _ _⟩
  · have hz : whole r = decide (4 ≤ r.words ∧ r.words % 2 = 0) := by unfold whole; rw [if_neg (by omega), if_pos hk]
    rw [hz]
    rw [hk] at c2
    clear hz hk h
    by_cases h4 : 4 ≤ r.words
    · have hq : decide ((4 : Int) ≤ (r.words : Int)) = true := decide_eq_true (by omega)
      have hq' : decide (4 ≤ r.words) = true := decide_eq_true h4
      go_enter Tryz.func11, Tryz.ntmps11
      go_wp2_with fail
      go_ret
      exact ⟨ret_bool (by rw [Bool.eq_iff_iff]; simp; omega), Below.refl _ _⟩
    · have hq : decide ((4 : Int) ≤ (r.words : Int)) = false := decide_eq_false (by omega)
      have hq' : decide (4 ≤ r.words) = false := decide_eq_false h4
      go_enter Tryz.func11, Tryz.ntmps11
      go_wp2_with fail
      go_ret
      exact ⟨ret_bool (by rw [Bool.eq_iff_iff]; simp; omega), Below.refl _ _⟩
  · obtain ⟨k, hkk⟩ : ∃ k : Nat, r.kind = k := ⟨r.kind.toNat, by omega⟩
    have hz : whole r = decide (r.words = 1 + (fldB k).size) := by unfold whole; rw [if_neg (by omega), if_neg (by omega), fldB_size, ← hkk]
    rw [hz]
    rw [hkk] at c2
    have hks : (fldB k).size ≤ 4 := by
      rw [fldB_size]; unfold hasL; split <;> split <;> split <;> split <;> simp
    have hfl := h.fl k (by omega)
    have hkc : (k : Int) < 20 := by omega
    have hm1 : ((k : Int) == -1) = false := beq_no (by omega)
    have hm2 : ((k : Int) == -2) = false := beq_no (by omega)
    have hw1 : IntKind.i64.wrap (1 + ((fldB k).size : Int)) = 1 + ((fldB k).size : Int) := by rw [IntKind.wrap_i64]; omega
    have e1 := fun d os => cell_regrown c1 d os
    have e2 := fun d os => cell_regrown c2 d os
    have e3 := fun d os => cell_regrown hfl d os
    clear hz hk0 hk1 hkk h hfl
    generalize fldB k = F at *
    go_enter Tryz.func11, Tryz.ntmps11
    go_wp2_with fail
    refine wp_region_quiet_below (by kernel_rfl) (by kernel_rfl) ?_
    repeat (go_big_quiet_step (fail))
    refine wpQuiet_nil ?_
    rintro _ ⟨⟨dq, osq⟩, rfl⟩
    go_wp2_with fail
    go_ret
    exact ⟨ret_bool (by rw [Bool.eq_iff_iff]; simp; omega), below_regrown _ dq osq⟩
end Go.Proofs.YtboidkmnkicoeaaGreatDoor
