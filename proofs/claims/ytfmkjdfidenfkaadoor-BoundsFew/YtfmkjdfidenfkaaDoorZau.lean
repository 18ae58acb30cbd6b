/- Bounds: a register changes so often at most. Bounds: a register changes so often at most: of a module that may be. -/
import Derived.Test.YtfmkjdfidenfkaaDoorVp
namespace Go.Proofs.YtfmkjdfidenfkaaDoor
open Go.RowKit

/-- What the law asks of rows. -/
structure FewI (t r n : Nat) (ins : List (List Sp)) (chg : List (List Nat)) : Prop where
  li : ins.length = n
  lc : chg.length = n
  row : ∀ i, i < n → (chg.getD i []).length = r ∧ (ins.getD i [] = [] ∨ (ins.getD i []).length = r) ∧ ∀ k ∈ chg.getD i [], k ≤ t + 6 ∧ (ins.getD i [] = [] → k = 0)
theorem WkI.few {ths : List Int} {n r : Nat} {st : Wk} (h : WkI ths n r st) : FewI ths.length r n st.ins st.chg := by
  refine ⟨h.li, h.lc, fun i hi => ?_⟩
  have hp := h.pt i hi
  refine ⟨hp.len, ?_, fun k hk => ⟨hp.le k hk, fun e => (hp.none e).2.2 k hk⟩⟩
  by_cases e : insA st i = []
  · exact .inl e
  · exact .inr (hp.some e).1
set_option maxRecDepth 100000 in
set_option maxHeartbeats 8000000 in
theorem few_no (m : Mo) (fn : Int) (w : World) (ht : Tab w) (hm : m.In w) (hno : (mayZ m).1 ≠ 0 ∨ fn < 0 ∨ (m.funcs.length : Int) ≤ fn) : Calls Tryd.prog 3 #[m.val, .int .i64 fn] w fun e w' => e = .returned (.bool true) ∧ Below w.heap.size w w' := by
  have HFX : Hid (∀ W, Below w.heap.size w W → Calls Tryd.prog 7 #[] W fun e w' => e = .returned (.bool true) ∧ Below W.heap.size W w') := fun W hW => fixed_any W (ht.stay hW)
  have HRN : Hid (∀ W, Below w.heap.size w W → Calls Tryd.prog 8 #[m.val, .int .i64 fn] W fun e w' => Below W.heap.size W w' ∧ ∃ z : Int, z ≠ 0 ∧ e = .returned (.tuple #[.agg #[.slice none 0 0, .slice none 0 0], .int .i64 z])) := fun W hW => by
    refine (run_any m fn W (ht.stay hW) (hm.stay hW)).mono ?_
    rintro e w' ⟨hb, h⟩
    refine ⟨hb, ?_⟩
    by_cases h1 : (mayZ m).1 ≠ 0
    · rw [if_pos h1] at h; exact ⟨_, h1, h⟩
    · rw [if_neg h1, if_pos (hno.resolve_left h1)] at h; exact ⟨1, by decide, h⟩
  unfold Mo.val at HRN ⊢
  clear ht hm hno
  go_enter Tryd.func3, Tryd.ntmps3
  go_upto_region 1 with fail
  have B := Below.one (Below.refl _ w) (.cells #[.slice m.ta m.ths.length m.tc, .slice m.fa m.funcs.length m.fc] 25)
  have hM := heap_alloc_new w (.cells #[.slice m.ta m.ths.length m.tc, .slice m.fa m.funcs.length m.fc] 25)
  have m0 := cell_of_obj hM (j := 0) (v := .slice m.ta m.ths.length m.tc) rfl
  have m1 := cell_of_obj hM (j := 1) (v := .slice m.fa m.funcs.length m.fc) rfl
  have HB := Hid.mk' B
  clear hM B
  generalize w.alloc (.cells #[.slice m.ta m.ths.length m.tc, .slice m.fa m.funcs.length m.fc] 25) = W at *
  go_upto_region 4 with (first | (go_at_call 7; refine (HFX.out _ HB.out).mono ?_; rintro e w5 ⟨rfl, hb5⟩; have n0 := cell_kept_below m0 hb5; have n1 := cell_kept_below m1 hb5; have HB5 := Hid.mk' (Below.on HB.out hb5); clear hb5) | (go_at_call 8; refine (HRN.out _ HB5.out).mono ?_; rintro e w6 ⟨hb6, z, hz, rfl⟩; have HB6 := Hid.mk' (Below.on HB5.out hb6); have q1 := bne_of hz; clear hb6 hz))
  have h6 := heap_alloc_new w6 (.cells #[.slice none 0 0, .slice none 0 0] 30)
  have B6 := Hid.mk' (Below.on HB6.out (Below.one (Below.refl _ w6) (.cells #[.slice none 0 0, .slice none 0 0] 30)))
  have a0 := cell_of_obj h6 (j := 0) (v := .slice none 0 0) rfl
  have a1 := cell_of_obj h6 (j := 1) (v := .slice none 0 0) rfl
  clear h6 m0 m1 n0 n1
  go_wp2_with fail
  exact bodyPost_ret (v := .bool true) (by simp [results, Tryd.results3, go_sem, *]) rfl ⟨rfl, B6.out⟩
end Go.Proofs.YtfmkjdfidenfkaaDoor
namespace Go.Proofs.YtfmkjdfidenfkaaDoor
open Go.RowKit

set_option maxRecDepth 100000 in
set_option maxHeartbeats 8000000 in
theorem few_yes (m : Mo) (n : Nat) (w : World) (ht : Tab w) (hm : m.In w) (hno : (mayZ m).1 = 0) (hn : n < m.funcs.length) : Calls Tryd.prog 3 #[m.val, .int .i64 (n : Int)] w fun e w' => e = .returned (.bool true) ∧ Below w.heap.size w w' := by
  have HFX : Hid (∀ W, Below w.heap.size w W → Calls Tryd.prog 7 #[] W fun e w' => e = .returned (.bool true) ∧ Below W.heap.size W w') := fun W hW => fixed_any W (ht.stay hW)
  have hfi : m.funcs[n]? = some m.funcs[n] := List.getElem?_eq_getElem hn
  have H := fn_r hno hm hfi
  obtain ⟨f, hf⟩ : ∃ f, m.funcs[n] = f := ⟨_, rfl⟩
  rw [hf] at H hfi
  obtain ⟨r, hr⟩ : ∃ r, f.regs.toNat = r := ⟨_, rfl⟩
  rw [hr] at H
  have hrr := H.r
  have H0 := Hid.mk' H.r1.2
  have HR1 := Hid.mk' H.r1.1
  have hlen := H.ok.len
  have htl : m.ths.length ≤ 16 := by
    have h2 := hno
    unfold mayZ at h2
    by_cases h0 : (wholeZ m).1 ≠ 0
    · rw [if_pos h0] at h2; exact absurd h2 h0
    · unfold wholeZ at h0
      by_cases h1 : m.ths.length > 16
      · rw [if_pos h1] at h0; exact absurd (by decide) h0
      · omega
  have HRN : Hid (∀ W, Below w.heap.size w W → Calls Tryd.prog 8 #[m.val, .int .i64 (n : Int)] W fun e w' => Below W.heap.size W w' ∧ ∃ (gI gC : Nat) (ins : List (List Sp)) (chg : List (List Nat)), e = .returned (.tuple #[.agg #[.slice (some ⟨gI, 0, none⟩) f.code.length f.code.length, .slice (some ⟨gC, 0, none⟩) f.code.length f.code.length], .int .i64 0]) ∧ RwS w' (some ⟨gI, 0, none⟩) ins ∧ RwN w' (some ⟨gC, 0, none⟩) chg ∧ FewI m.ths.length r f.code.length ins chg) := fun W hW => by
    refine (run_any m n W (ht.stay hW) (hm.stay hW)).mono ?_
    rintro e w' ⟨hb, h⟩
    refine ⟨hb, ?_⟩
    rw [if_neg (by omega), if_neg (by omega), Int.toNat_natCast] at h
    obtain ⟨f', L, sd, cm, hf', he, hat⟩ := h
    obtain rfl : f = f' := by rw [hfi] at hf'; injection hf'
    rw [hr] at hat
    have hI := (anZ_inv H (hm.2.2.2 f (List.mem_of_getElem? hfi)).2.2.2.2.1).1
    exact ⟨L.gI, L.gC, _, _, he, hat.rws hI H.r1.2, hat.rwn hI, hI.few⟩
  have HFN : Hid (∀ W, Below w.heap.size w W → ∃ b o, m.fa = some ⟨b, o, none⟩ ∧ W.cell? ⟨b, o + n * 5 + 2, none⟩ = some (.int .i64 f.regs) ∧ W.cell? ⟨b, o + n * 5 + 4, none⟩ = some (.slice f.ca f.code.length f.cc)) := fun W hW => by
    obtain ⟨b, o, e, -, -, d2, -, d4⟩ := fns_at (hm.stay hW).2.2.1 hn
    rw [hf] at d2 d4
    exact ⟨b, o, e, d2, d4⟩
  have hfl : m.funcs.length < 4611686018427387904 := by have := hm.2.2.1.1; omega
  have q2 : decide ((n : Int) < 0) = false := decide_eq_false (by omega)
  have q3 : decide ((m.funcs.length : Int) ≤ (n : Int)) = false := decide_eq_false (by omega)
  have q4 : decide (m.funcs.length ≤ n) = false := decide_eq_false (by omega)
  have hni : (n : Int) < (m.funcs.length : Int) := by omega
  have q5 : ((f.code.length : Int) != (f.code.length : Int)) = false := bne_no rfl
  unfold Mo.val at HRN ⊢
  clear ht hm hno hf hfi H
  go_enter Tryd.func3, Tryd.ntmps3
  go_upto_region 1 with fail
  have B := Below.one (Below.refl _ w) (.cells #[.slice m.ta m.ths.length m.tc, .slice m.fa m.funcs.length m.fc] 25)
  have hM := heap_alloc_new w (.cells #[.slice m.ta m.ths.length m.tc, .slice m.fa m.funcs.length m.fc] 25)
  have m0 := cell_of_obj hM (j := 0) (v := .slice m.ta m.ths.length m.tc) rfl
  have m1 := cell_of_obj hM (j := 1) (v := .slice m.fa m.funcs.length m.fc) rfl
  have HB := Hid.mk' B
  clear hM B
  generalize w.alloc (.cells #[.slice m.ta m.ths.length m.tc, .slice m.fa m.funcs.length m.fc] 25) = W at *
  go_upto_region 4 with (first | (go_at_call 7; refine (HFX.out _ HB.out).mono ?_; rintro e w5 ⟨rfl, hb5⟩; have n0 := cell_kept_below m0 hb5; have n1 := cell_kept_below m1 hb5; have HB5 := Hid.mk' (Below.on HB.out hb5); clear hb5) | (go_at_call 8; refine (HRN.out _ HB5.out).mono ?_; rintro e w6 ⟨hb6, gI, gC, ins, chg, rfl, hI6, hC6, hfew⟩; have HB6 := Hid.mk' (Below.on HB5.out hb6); have k0 := cell_kept_below n0 hb6; have k1 := cell_kept_below n1 hb6; have HR6 := Hid.mk' (And.intro hI6 (And.intro hC6 hfew)); clear hb6 hI6 hC6 hfew))
  have h6 := heap_alloc_new w6 (.cells #[.slice (some ⟨gI, 0, none⟩) f.code.length f.code.length, .slice (some ⟨gC, 0, none⟩) f.code.length f.code.length] 30)
  have b6 := Below.one (Below.refl _ w6) (.cells #[.slice (some ⟨gI, 0, none⟩) f.code.length f.code.length, .slice (some ⟨gC, 0, none⟩) f.code.length f.code.length] 30)
  have HB7 := Hid.mk' (Below.on HB6.out b6)
  have hI7 := HR6.out.1.stay b6
  have hC7 := HR6.out.2.1.stay b6
  have HFW := Hid.mk' HR6.out.2.2
  have p0 := cell_kept_below k0 b6
  have p1 := cell_kept_below k1 b6
  have a0 := cell_of_obj h6 (j := 0) (v := .slice (some ⟨gI, 0, none⟩) f.code.length f.code.length) rfl
  have a1 := cell_of_obj h6 (j := 1) (v := .slice (some ⟨gC, 0, none⟩) f.code.length f.code.length) rfl
  have HI7 := Hid.mk' hI7
  have HC7 := Hid.mk' hC7
  clear b6 h6 hI7 hC7 k0 k1 n0 n1 m0 m1 HR6
  generalize w6.alloc (.cells #[.slice (some ⟨gI, 0, none⟩) f.code.length f.code.length, .slice (some ⟨gC, 0, none⟩) f.code.length f.code.length] 30) = W7 at *
  obtain ⟨fb, fo, efa, d2, d4⟩ := HFN.out _ HB7.out
  rw [efa] at p1
  clear efa HFN
  go_upto_region 6 with fail
  go_quiet (fail)
  have HC := Hid.mk' (And.intro p0 (And.intro p1 (And.intro a0 (And.intro a1 d2))))
  have hlen2 : f.code.length ≤ 1024 := hlen.2
  go_wp2_with fail
  go_loopw [7] (fun t wr => ∃ i : Nat, i ≤ f.code.length ∧ t = .int .i64 (i : Int) ∧ Below W7.heap.size W7 wr) (fun t _ => f.code.length - (intOf t).toNat)
  case atStart => exact ⟨0, Nat.zero_le _, rfl, (Below.refl _ W7).drewN _⟩
  case round =>
    obtain ⟨i, hi, rfl, hb⟩ := hrel
    obtain ⟨u0, u1, u2, u3, u4⟩ := HC.out
    have p0 := cell_kept_below u0 hb
    have p1 := cell_kept_below u1 hb
    have a0 := cell_kept_below u2 hb
    have a1 := cell_kept_below u3 hb
    have d2 := cell_kept_below u4 hb
    clear u0 u1 u2 u3 u4
    by_cases hlt : i < f.code.length
    · have hli : (i : Int) < (f.code.length : Int) := by omega
      obtain ⟨hrow1, hrow2, hrow3⟩ := HFW.out.row i hlt
      have hii : i < ins.length := by rw [HFW.out.li]; exact hlt
      have hic : i < chg.length := by rw [HFW.out.lc]; exact hlt
      obtain ⟨b1, o1, ai, ci, e1, c0, s0⟩ := (HI7.out.stay hb) i _ (List.getElem?_eq_getElem hii)
      obtain ⟨b2, o2, bi, di, e2, c1, s1⟩ := (HC7.out.stay hb) i _ (List.getElem?_eq_getElem hic)
      injection e1 with e1
      injection e2 with e2
      cases e1
      cases e2
      rw [Nat.zero_add] at c0 c1
      rw [getD_lt hii] at hrow2 hrow3
      rw [getD_lt hic] at hrow1 hrow3
      generalize ins[i] = l at *
      generalize chg[i] = v at *
      have HS := Hid.mk' s1
      have HR3 := Hid.mk' hrow3
      have HBK := Hid.mk' hb
      have q6 : ((v.length : Int) != f.regs) = false := bne_no (by omega)
      have hvl : v.length ≤ 64 := by have := H0.out; omega
      clear s0 s1 hb hrow3 hii hic
      by_cases hl0 : l = []
      · subst hl0
        rw [List.length_nil] at c0
        clear hrow2
        have HCC := Hid.mk' (And.intro p0 (And.intro a0 (And.intro a1 (And.intro c0 c1))))
        go_wp2_with fail
        go_quiet (fail)
        go_wp2_with fail
        go_loopw [8] (fun t wr2 => ∃ j : Nat, j ≤ v.length ∧ t = .int .i64 (j : Int) ∧ Below wr.heap.size wr wr2) (fun t _ => v.length - (intOf t).toNat)
        case atStart => exact ⟨0, Nat.zero_le _, rfl, (Below.refl _ wr).drewN _⟩
        case round =>
          obtain ⟨j, hj, rfl, hb2⟩ := hrel
          obtain ⟨u0, u1, u2, u3, u4⟩ := HCC.out
          have p0 := cell_kept_below u0 hb2
          have a0 := cell_kept_below u1 hb2
          have a1 := cell_kept_below u2 hb2
          have c0 := cell_kept_below u3 hb2
          have c1 := cell_kept_below u4 hb2
          clear u0 u1 u2 u3 u4
          have HB2 := Hid.mk' hb2
          by_cases hlt2 : j < v.length
          · have hji : (j : Int) < (v.length : Int) := by omega
            obtain ⟨g, u, rfl, e0⟩ := lst_n (HS.out.stay hb2) hlt2
            obtain ⟨hx1, hx2⟩ := HR3.out v[j] (List.getElem_mem hlt2)
            generalize v[j] = x at *
            clear hb2
            have hx0 : x = 0 := hx2 trivial
            subst hx0
            clear hx1 hx2
            go_wp2_with fail
            go_roundw
            case rel => exact ⟨j + 1, by omega, by go_num, HB2.out⟩
            case measure => simp [intOf]; omega
          · obtain rfl : j = v.length := by omega
            have hji : ¬ (v.length : Int) < (v.length : Int) := by omega
            have HB3 := Hid.mk' (HBK.out.trans (hb2.mono HBK.out.size))
            clear hb2
            go_wp2_with fail
            go_roundw
            case rel => exact ⟨i + 1, by omega, by go_num, HB3.out⟩
            case measure => simp [intOf]; omega
      · have hlr := hrow2.resolve_left hl0
        have hl1 : ((l.length : Int) != 0) = true := bne_of (by have := HR1.out; omega)
        have hl2 : ((l.length : Int) != f.regs) = false := bne_no (by omega)
        have hl3 : ((l.length : Int) == 0) = false := beq_no (by have := HR1.out; omega)
        clear hrow2 hlr
        have HCC := Hid.mk' (And.intro p0 (And.intro a0 (And.intro a1 (And.intro c0 c1))))
        go_wp2_with fail
        go_quiet (fail)
        go_wp2_with fail
        go_loopw [8] (fun t wr2 => ∃ j : Nat, j ≤ v.length ∧ t = .int .i64 (j : Int) ∧ Below wr.heap.size wr wr2) (fun t _ => v.length - (intOf t).toNat)
        case atStart => exact ⟨0, Nat.zero_le _, rfl, (Below.refl _ wr).drewN _⟩
        case round =>
          obtain ⟨j, hj, rfl, hb2⟩ := hrel
          obtain ⟨u0, u1, u2, u3, u4⟩ := HCC.out
          have p0 := cell_kept_below u0 hb2
          have a0 := cell_kept_below u1 hb2
          have a1 := cell_kept_below u2 hb2
          have c0 := cell_kept_below u3 hb2
          have c1 := cell_kept_below u4 hb2
          clear u0 u1 u2 u3 u4
          have HB2 := Hid.mk' hb2
          by_cases hlt2 : j < v.length
          · have hji : (j : Int) < (v.length : Int) := by omega
            obtain ⟨g, u, rfl, e0⟩ := lst_n (HS.out.stay hb2) hlt2
            obtain ⟨hx1, hx2⟩ := HR3.out v[j] (List.getElem_mem hlt2)
            generalize v[j] = x at *
            clear hb2
            have hqx : decide ((x : Int) < 0) = false := decide_eq_false (by omega)
            have hqy : decide ((4 : Int) + (m.ths.length : Int) + 2 < (x : Int)) = false := decide_eq_false (by omega)
            have hqz : (4 : Int) + (m.ths.length : Int) + 2 ≥ (x : Int) := by omega
            clear hx2
            go_wp2_with fail
            go_roundw
            case rel => exact ⟨j + 1, by omega, by go_num, HB2.out⟩
            case measure => simp [intOf]; omega
          · obtain rfl : j = v.length := by omega
            have hji : ¬ (v.length : Int) < (v.length : Int) := by omega
            have HB3 := Hid.mk' (HBK.out.trans (hb2.mono HBK.out.size))
            clear hb2
            go_wp2_with fail
            go_roundw
            case rel => exact ⟨i + 1, by omega, by go_num, HB3.out⟩
            case measure => simp [intOf]; omega
    · obtain rfl : i = f.code.length := by omega
      have hli : ¬ (f.code.length : Int) < (f.code.length : Int) := by omega
      have HB8 := Hid.mk' (HB7.out.trans (hb.mono HB7.out.size))
      clear hb
      go_wp2_with fail
      exact bodyPost_ret (v := .bool true) (by simp [results, Tryd.results3, go_sem, *]) rfl ⟨rfl, HB8.out⟩
/-- Of every module and number. -/
theorem boundsFew_any (m : Mo) (fn : Int) (w : World) (ht : Tab w) (hm : m.In w) : Calls Tryd.prog 3 #[m.val, .int .i64 fn] w fun e w' => e = .returned (.bool true) ∧ Below w.heap.size w w' := by
  by_cases h : (mayZ m).1 ≠ 0 ∨ fn < 0 ∨ (m.funcs.length : Int) ≤ fn
  · exact few_no m fn w ht hm h
  · obtain ⟨n, rfl⟩ := Int.eq_ofNat_of_zero_le (show 0 ≤ fn by omega)
    exact few_yes m n w ht hm (by omega) (by omega)
end Go.Proofs.YtfmkjdfidenfkaaDoor
