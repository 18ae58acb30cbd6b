/- AsmLines. -/
import Derived.Test.YtboidkmnkicoeaaDoorWb
namespace Go.Proofs.YtboidkmnkicoeaaDoor
open Go.RowKit Go.Sort

theorem count_take {t : Bt} {i : Nat} (h : i < t.length) : (t.take (i + 1)).count 10 = (t.take i).count 10 + if t[i] = 10 then 1 else 0 := by
  rw [List.take_add_one, List.getElem?_eq_getElem h, Option.toList_some, List.count_append, List.count_singleton]
  simp
theorem parse_nop (m : Mo) (w w' : World) (h : Env w') (hm : m.In w) (hz : (mayZ m).1 = 0) : Calls Tryd.prog 11 #[.string (tb (moT m) ++ ⟨#[110, 111, 112, 10]⟩)] w' fun e w'' => ∃ (q : Mo), e = .returned (.tuple #[q.val, .int .i64 (if (moT m).count 10 = 1 then 5 else 60), .int .i64 ((moT m).count 10 + 1 : Nat), .int .i64 0]) ∧ Below w'.heap.size w' w'' := by
  have e1 : tb (moT m) ++ ⟨#[110, 111, 112, 10]⟩ = tb (moT m ++ (nopB ++ [10])) := by
    rw [← tb_app]; rfl
  rw [e1]
  have hl : (moT m ++ (nopB ++ [10])).length ≤ 140737488351232 := by
    have := moT_len hm (may_pr hz)
    rw [List.length_append]
    have : (nopB ++ [10]).length = 4 := rfl
    omega
  refine (parse_any _ hl w' h).mono ?_
  rintro e w'' ⟨hb, q, rfl, _, _, _⟩
  rw [parZ_nop hz hm]
  refine ⟨q, ?_, hb⟩
  simp
theorem parse_part (t : Bt) (ht : t.length ≤ 140737488351232) (k : Nat) (hk : 0 < k) (hkl : k ≤ t.length) (h10 : t[k - 1]? ≠ some 10) (w : World) (h : Env w) : Calls Tryd.prog 11 #[.string ((tb t).extract 0 k)] w fun e w'' => ∃ (q : Mo) (g l p : Int), e = .returned (.tuple #[q.val, .int .i64 g, .int .i64 l, .int .i64 p]) ∧ Below w.heap.size w w'' ∧ g ≠ 0 ∧ 1 ≤ l ∧ l ≤ 1 + ((t.take k).count 10 : Nat) := by
  have e1 : (tb t).extract 0 k = tb (t.take k) := by
    rw [ext_tb]
    unfold cutB
    rw [tb_list]
    simp
  rw [e1]
  refine (parse_any _ (by rw [List.length_take]; omega) w h).mono ?_
  rintro e w'' ⟨hb, q, rfl, _, _, _⟩
  have hlast : (t.take k).getLast? ≠ some 10 := by
    rw [List.getLast?_eq_getElem?, List.length_take, List.getElem?_take, if_pos (by omega), show min k t.length - 1 = k - 1 by omega]
    exact h10
  have hne : t.take k ≠ [] := fun e => by
    have h2 : (t.take k).length = 0 := by rw [e]; rfl
    rw [List.length_take] at h2
    omega
  obtain ⟨a1, a2, a3⟩ := parZ_cut hne hlast
  exact ⟨q, _, _, _, rfl, hb, a1, a2, by omega⟩
theorem byte_eq {t : Bt} {T : ByteArray} (h : tb t = T) {i : Nat} (hi : i < T.size) (ht : i < t.length) : ((((T[i]'hi).toNat : Nat) : Int) == 10) = decide (t[i] = 10) := by
  subst h
  have e : (tb t)[i] = t[i] := rfl
  rw [e, Bool.eq_iff_iff]
  simp only [beq_iff_eq, decide_eq_true_eq]
  constructor
  · intro h
    apply UInt8.toNat_inj.1
    show _ = 10
    omega
  · intro h
    rw [h]
    rfl
theorem rem_nat (c : Int) {n : Nat} (hn : 0 < n) (hb : n ≤ 4000000) : ∃ K : Nat, K < n ∧ ((decide (c.tmod n < 0) = true ∧ wrap64 (-c.tmod n) = K) ∨ (decide (c.tmod n < 0) = false ∧ c.tmod n = K)) := by
  have h1 : (c.tmod n).natAbs = c.natAbs % n := by rw [Int.natAbs_tmod]; rfl
  have h2 := Nat.mod_lt c.natAbs hn
  refine ⟨(c.tmod n).natAbs, by omega, ?_⟩
  generalize c.tmod n = x at *
  by_cases hx : x < 0
  · refine .inl ⟨decide_eq_true hx, ?_⟩
    unfold wrap64
    omega
  · exact .inr ⟨decide_eq_false hx, by omega⟩
set_option maxRecDepth 100000 in
set_option maxHeartbeats 8000000 in
theorem asmLines_any (m : Mo) (c : Int) (w : World) (h : Env w) (hm : m.In w) : Calls Tryd.prog 5 #[m.val, .int .i64 c] w fun e w' => e = .returned (.bool true) ∧ Below w.heap.size w w' := by
  have hb0 := Below.one (Below.refl _ w) (.cells #[.slice m.ta m.ths.length m.tc, .slice m.fa m.funcs.length m.fc] 25)
  have HPR : Hid (∀ w', Below w.heap.size w w' → Calls Tryd.prog 7 #[m.val] w' fun e w'' => e = .returned (prnV m) ∧ Below w'.heap.size w' w'') := fun w' hb => print_any m w' (h.stay hb) (hm.stay hb)
  have HFX : Hid (∀ w', Below w.heap.size w w' → Calls Tryd.prog 10 #[] w' fun e w'' => e = .returned (.bool true) ∧ Below w'.heap.size w' w'') := fun w' hb => fixed_any w' (h.stay hb)
  have HPT : Hid ((mayZ m).1 = 0 → prnT m = moT m) := fun hz => if_pos hz
  have HNP : Hid ((mayZ m).1 = 0 → ∀ w', Below w.heap.size w w' → _) := fun hz w' hb => parse_nop m w w' (h.stay hb) hm hz
  have HPP : Hid ((moT m).length ≤ 140737488351232 → ∀ k, 0 < k → k ≤ (moT m).length → (moT m)[k - 1]? ≠ some 10 → ∀ w', Below w.heap.size w w' → _) := fun hl k h1 h2 h3 w' hb => parse_part (moT m) hl k h1 h2 h3 w' (h.stay hb)
  have HLN : Hid ((mayZ m).1 = 0 → 1 ≤ (moT m).count 10 ∧ (moT m).length ≤ 4000000) := fun hz => ⟨moT_count m, moT_len hm (may_pr hz)⟩
  have HB := Hid.mk' hb0
  clear h hm hb0
  unfold prnV fltV at HPR
  generalize mayZ m = z at *
  generalize prnT m = t0 at *
  generalize moT m = t at *
  obtain ⟨z0, z1, z2⟩ := z
  unfold Mo.val at *
  go_enter Tryd.func5, Tryd.ntmps5
  go_wp2_with fail
  generalize hG0 : w.alloc (.cells #[.slice m.ta m.ths.length m.tc, .slice m.fa m.funcs.length m.fc] 25) = W0 at *
  clear hG0
  refine (HPR.out _ HB.out).mono ?_
  rintro e W1 ⟨rfl, hb1⟩
  have hb2 := Below.one hb1 (.cells #[.int .i64 z0, .int .i64 z1, .int .i64 z2] 29)
  have HF := Hid.mk' (heap_alloc_new W1 (.cells #[.int .i64 z0, .int .i64 z1, .int .i64 z2] 29))
  replace HB := Hid.mk' (Below.on HB.out hb2)
  clear hb1 hb2 HPR
  go_wp2_with fail
  generalize W1.heap.size = G1 at *
  generalize W1.alloc (.cells #[.int .i64 z0, .int .i64 z1, .int .i64 z2] 29) = W2 at *
  refine (HFX.out _ HB.out).mono ?_
  rintro e W3 ⟨rfl, hb3⟩
  have a0 := cell_of_obj ((hb3.block _ (Array.getElem?_eq_some_iff.1 HF.out).1).trans HF.out) (j := 0) (v := .int .i64 z0) rfl
  replace HB := Hid.mk' (Below.on HB.out hb3)
  clear hb3 HF
  by_cases hz0 : z0 = 0
  · subst hz0
    have ht := HPT.out rfl
    subst ht
    obtain ⟨hc1, hl1⟩ := HLN.out rfl
    have HNP1 := Hid.mk' (HNP.out rfl)
    have HPP1 := Hid.mk' (HPP.out (by omega))
    clear HPT HLN HNP HPP
    have hts := tb_size t0
    generalize hTT : tb t0 = T at *
    have HTT := Hid.mk' hTT
    clear hTT
    go_wp2_with fail
    go_loopw [7, 8] (fun t7 t8 wr => wr = W3 ∧ ∃ i : Nat, i ≤ t0.length ∧ t8 = .int .i64 i ∧ t7 = .int .i64 ((t0.take i).count 10 : Nat)) (fun _ t8 _ => t0.length - (intOf t8).toNat)
    case atStart => exact ⟨rfl, 0, Nat.zero_le _, rfl, by simp⟩
    case round =>
      obtain ⟨rfl, i, hi, rfl, rfl⟩ := hrel
      by_cases hlt : i < t0.length
      · have hli : (i : Int) < (t0.length : Int) := by omega
        have hli2 : (i : Int) < (T.size : Int) := by omega
        have hiT : i < T.size := by omega
        have hq := byte_eq HTT.out hiT hlt
        have HCT := Hid.mk' (count_take hlt)
        have hcl : (t0.take i).count 10 ≤ 4000000 := by have := List.count_le_length (a := (10 : UInt8)) (l := t0.take i); rw [List.length_take] at this; omega
        cases hd : decide (t0[i] = 10)
        · rw [hd] at hq
          have HD := Hid.mk' (of_decide_eq_false hd)
          clear hd
          go_wp2_with fail
          go_roundw
          case rel => exact ⟨trivial, i + 1, by omega, by go_num, by rw [HCT.out, if_neg HD.out]; rfl⟩
          case measure => simp [intOf]; omega
        · rw [hd] at hq
          have HD := Hid.mk' (of_decide_eq_true hd)
          clear hd
          go_wp2_with fail
          go_roundw
          case rel => exact ⟨trivial, i + 1, by omega, by go_num, by rw [HCT.out, if_pos HD.out]; go_num⟩
          case measure => simp [intOf]; omega
      · have hie : i = t0.length := by omega
        subst hie
        rw [List.take_of_length_le (Nat.le_refl _)]
        have hcl : t0.count 10 ≤ t0.length := List.count_le_length
        generalize t0.count 10 = L at *
        generalize hTL : t0.length = TL at *
        have HTL := Hid.mk' hTL
        clear hTL hlt hi
        have hli : ¬ ((TL : Int) < (T.size : Int)) := by omega
        have HN2 := Hid.mk' (HNP1.out _ HB.out)
        clear HNP1
        go_wp2_with fail
        refine HN2.out.mono ?_
        rintro e W4 ⟨q, rfl, hb4⟩
        have HB4 := Hid.mk' (Below.on HB.out (Below.one hb4 (.cells #[.slice q.ta q.ths.length q.tc, .slice q.fa q.funcs.length q.fc] 25)))
        clear hb4 HN2 HB a0
        have hT0 : ((T.size : Int) == 0) = false := beq_no (by omega)
        have hT1 : ¬ ((T.size : Int) = 0) := by omega
        have hu : undef = Value.tuple #[] := rfl
        obtain ⟨K, hKl, hK⟩ := rem_nat c (n := TL) (by omega) (by omega)
        have HLL : Hid ((L = 1 ∧ (if L = 1 then (5 : Int) else 60) = 5) ∨ (L ≠ 1 ∧ (if L = 1 then (5 : Int) else 60) = 60)) := by
          show _ ∨ _
          by_cases e : L = 1
          · exact .inl ⟨e, if_pos e⟩
          · exact .inr ⟨e, if_neg e⟩
        have hKK : K = 0 ∨ (0 < K ∧ ∃ h : K - 1 < t0.length, t0[K - 1] = 10) ∨ (0 < K ∧ ∃ h : K - 1 < t0.length, t0[K - 1] ≠ 10) := by
          by_cases e : K = 0
          · exact .inl e
          · have hl : K - 1 < t0.length := by rw [HTL.out]; omega
            by_cases e2 : t0[K - 1] = 10
            · exact .inr (.inl ⟨by omega, hl, e2⟩)
            · exact .inr (.inr ⟨by omega, hl, e2⟩)
        have HKK := Hid.mk' hKK
        clear hKK
        have hTK : ∀ (h : K - 1 < T.size) (h' : K - 1 < t0.length), (((T[K - 1]'h).toNat : Int) == 10) = decide (t0[K - 1] = 10) := fun h h' => byte_eq HTT.out h h'
        generalize (if L = 1 then (5 : Int) else 60) = ee at *
        rcases hK with ⟨hs1, hs2⟩ | ⟨hs1, hs2⟩
        all_goals
          rcases HLL.out with ⟨rfl, rfl⟩ | ⟨hL1, rfl⟩
          case' inl => have g1 : True := trivial
          case' inr =>
            have g1 : decide ((1 : Int) < (L : Int)) = true := decide_eq_true (by omega)
            have g2 : decide (1 < L) = true := decide_eq_true (by omega)
            have g3 : ((L : Int) == 1) = false := beq_no (by omega)
            have g4 : ¬ ((L : Int) = 1) := by omega
        all_goals
          clear HLL
          rcases HKK.out with rfl | ⟨hk0, hkl, hk10⟩ | ⟨hk0, hkl, hk10⟩
          · clear HKK hTK
            go_wp2_with fail
            go_ret
            exact ⟨rfl, HB4.out⟩
          · have hi0 : ((K : Int) == 0) = false := beq_no (by omega)
            have hi1 : (1 : Int) ≤ (K : Int) := by omega
            have hi2 : (K : Int) - 1 < (TL : Int) := by omega
            have hi4 : K - 1 < T.size := by omega
            have hi3 := hTK hi4 hkl
            rw [decide_eq_true hk10] at hi3
            clear HKK hTK hk10 hkl
            go_wp2_with fail
            go_ret
            exact ⟨rfl, HB4.out⟩
          · have hi0 : ((K : Int) == 0) = false := beq_no (by omega)
            have hi1 : (1 : Int) ≤ (K : Int) := by omega
            have hi2 : (K : Int) - 1 < (TL : Int) := by omega
            have hi4 : K - 1 < T.size := by omega
            have hi3 := hTK hi4 hkl
            rw [decide_eq_false hk10] at hi3
            have HPK := Hid.mk' (HPP1.out K hk0 (by omega) (by rw [List.getElem?_eq_getElem hkl]; exact fun e => hk10 (by injection e)) _ HB4.out)
            clear HKK hTK hk10 hkl HPP1
            go_wp2_with fail
            generalize W4.heap.size = G4 at *
            generalize W4.alloc (.cells #[.slice q.ta q.ths.length q.tc, .slice q.fa q.funcs.length q.fc] 25) = W5 at *
            try rw [hs2]
            clear hi3 hi4 hs1 hs2
            go_loopw [14, 15] (fun t14 t15 wr => wr = W5 ∧ ∃ i : Nat, i ≤ K ∧ t15 = .int .i64 i ∧ t14 = .int .i64 (1 + ((t0.take i).count 10 : Nat))) (fun _ t15 _ => K - (intOf t15).toNat)
            case atStart => exact ⟨rfl, 0, Nat.zero_le _, rfl, by simp⟩
            case round =>
              obtain ⟨rfl, i, hi, rfl, rfl⟩ := hrel
              by_cases hlt : i < K
              · have hlk : (i : Int) < (K : Int) := by omega
                have hlt0 : i < t0.length := by rw [HTL.out]; omega
                have hli2 : (i : Int) < (T.size : Int) := by omega
                have hli3 : (i : Int) < (TL : Int) := by omega
                have hiT : i < T.size := by omega
                have hq := byte_eq HTT.out hiT hlt0
                have HCT := Hid.mk' (count_take hlt0)
                have hcl2 : (t0.take i).count 10 ≤ 4000000 := by have := List.count_le_length (a := (10 : UInt8)) (l := t0.take i); rw [List.length_take] at this; omega
                cases hd : decide (t0[i] = 10)
                · rw [hd] at hq
                  have HD := Hid.mk' (of_decide_eq_false hd)
                  clear hd
                  go_wp2_with fail
                  go_roundw
                  case rel => exact ⟨trivial, i + 1, by omega, by go_num, by rw [HCT.out, if_neg HD.out]; rfl⟩
                  case measure => simp [intOf]; omega
                · rw [hd] at hq
                  have HD := Hid.mk' (of_decide_eq_true hd)
                  clear hd
                  go_wp2_with fail
                  go_roundw
                  case rel => exact ⟨trivial, i + 1, by omega, by go_num, by rw [HCT.out, if_pos HD.out]; go_num⟩
                  case measure => simp [intOf]; omega
              · have hie : i = K := by omega
                subst hie
                generalize (t0.take i).count 10 = C at *
                have hk1 : (i : Int) ≤ (T.size : Int) := by omega
                have hk2 : (i : Int) ≤ (TL : Int) := by omega
                go_wp2_with fail
                refine HPK.out.mono ?_
                rintro e W6 ⟨q2, g, l, p, rfl, hb6, hg, hl1, hl2⟩
                have j1 : (g != 0) = true := bne_of hg
                have j2 : decide ((1 : Int) ≤ l) = true := decide_eq_true hl1
                have j3 : decide (l ≤ 1 + (C : Int)) = true := decide_eq_true hl2
                have HB6 := Hid.mk' (Below.on HB4.out (Below.one hb6 (.cells #[.slice q2.ta q2.ths.length q2.tc, .slice q2.fa q2.funcs.length q2.fc] 25)))
                clear hg hl1 hl2 hb6
                go_wp2_with fail
                go_ret
                exact ⟨rfl, HB6.out⟩
  · have hq2 : (z0 != 0) = true := bne_of hz0
    clear hz0 HPT HNP HPP HLN
    go_wp2_with fail
    refine (HFX.out _ HB.out).mono ?_
    rintro e W4 ⟨rfl, hb4⟩
    go_wp2_with fail
    go_ret
    exact ⟨rfl, Below.on HB.out hb4⟩
end Go.Proofs.YtboidkmnkicoeaaDoor
