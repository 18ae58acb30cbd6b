/- asm.draft.check: what is wrong, and on which line. -/
import Derived.Test.YtboidkmnkicoeaaGreatDoorJo
import Derived.Test.YtboidkmnkicoeaaGreatDoorJf
namespace Go.Proofs.YtboidkmnkicoeaaGreatDoor
open Go.RowKit Go.Sort

/-- Which line, of the lines of heads. -/
def lnZ (many : Bool) (h : Int) (z0 z2 : Int) : Int := if z0 = 66 ∨ many = true then 1 else if z0 = 3 ∨ z0 = 8 ∨ z0 = 9 ∨ z0 = 40 ∨ z0 = 95 ∨ z0 = 96 ∨ z0 = 97 then h else h + 1 + z2
set_option maxRecDepth 100000 in
set_option maxHeartbeats 2000000 in
theorem line_any (N b : Nat) (d : Dr) (vt vf vh : Value) (gs : List Fn) (B : Nat) (w : World) (hd : DrAt N b d vt vf vh gs B w) (z0 z1 z2 : Int) (h : Nat) (hh : h ≤ 1000000000000000) (hz2 : 0 ≤ z2 ∧ z2 ≤ 1000000000000000)
    (hz1 : ¬ (z0 = 66 ∨ decide (16 < (d.ths.take 20).length) = true) → ∃ k : Nat, z1 = k ∧ (d.hs.take 33)[k]? = some h) :
    Calls Tryz.prog 31 #[.pointer (some ⟨b, 0, none⟩), .agg #[.int .i64 z0, .int .i64 z1, .int .i64 z2]] w fun e w' => e = .returned (.int .i64 (lnZ (decide (16 < (d.ths.take 20).length)) h z0 z2)) ∧ Below w.heap.size w w' := by
  have hb0 := Below.one (Below.refl _ w) (.cells #[.int .i64 z0, .int .i64 z1, .int .i64 z2] 68)
  have D0 := hd.stay hb0
  have xr := heap_alloc_new w (.cells #[.int .i64 z0, .int .i64 z1, .int .i64 z2] 68)
  have x0 := cell_of_obj xr (j := 0) (v := .int .i64 z0) rfl
  have x1 := cell_of_obj xr (j := 1) (v := .int .i64 z1) rfl
  have x2 := cell_of_obj xr (j := 2) (v := .int .i64 z2) rfl
  obtain ⟨ta, tc, rfl⟩ := gown_form D0.ot
  obtain ⟨ha, hc, rfl⟩ := gown_form D0.oh
  obtain ⟨p0, p1, p2⟩ := D0.cell
  have hoh := D0.oh
  generalize (d.ths.take 20).length = tl at *
  generalize hH : (d.hs.take 33) = H at *
  clear hd D0 xr hH p1
  have HB := Hid.mk' hb0
  clear hb0
  by_cases h66 : z0 = 66
  · have hq : (z0 == 66) = true := by simp [h66]
    have hz : lnZ (decide (16 < tl)) h z0 z2 = 1 := if_pos (.inl h66)
    rw [hz]
    clear hz h66 hz1 hoh
    go_enter Tryz.func31, Tryz.ntmps31
    go_wp2_with fail
    go_ret
    exact ⟨rfl, HB.out⟩
  · have hq : (z0 == 66) = false := beq_no h66
    by_cases ht : 16 < tl
    · have hz : lnZ (decide (16 < tl)) h z0 z2 = 1 := if_pos (.inr (decide_eq_true ht))
      rw [hz]
      have ht' : decide ((16 : Int) < (tl : Int)) = true := decide_eq_true (by omega)
      have ht'' : decide (16 < tl) = true := decide_eq_true ht
      clear hz h66 hz1 hoh
      go_enter Tryz.func31, Tryz.ntmps31
      go_wp2_with fail
      go_ret
      exact ⟨rfl, HB.out⟩
    · have hn : ¬ (z0 = 66 ∨ decide (16 < tl) = true) := fun h => h.elim h66 (fun h => ht (of_decide_eq_true h))
      obtain ⟨k, rfl, hk⟩ := hz1 hn
      have hkl := (List.getElem?_eq_some_iff.1 hk).1
      have hj : (H.map hC)[k]? = some (.int .i64 (h : Int)) := by rw [List.getElem?_map, hk]; rfl
      obtain ⟨gh, rfl, hc1, _, _⟩ := own_cellN hoh hj
      have hz : lnZ (decide (16 < tl)) h z0 z2 = if z0 = 3 ∨ z0 = 8 ∨ z0 = 9 ∨ z0 = 40 ∨ z0 = 95 ∨ z0 = 96 ∨ z0 = 97 then (h : Int) else h + 1 + z2 := if_neg hn
      rw [hz]
      have ht' : decide ((16 : Int) < (tl : Int)) = false := decide_eq_false (by omega)
      have ht'' : decide (16 < tl) = false := decide_eq_false ht
      have i1 : (0 : Int) ≤ (k : Int) := by omega
      have i2 : (k : Int) < (H.length : Int) := by omega
      have e0 := fun dd os => cell_regrown x0 dd os
      have e1 := fun dd os => cell_regrown x1 dd os
      have e2 := fun dd os => cell_regrown p2 dd os
      have e3 := fun dd os => cell_regrown hc1 dd os
      have e4 := fun dd os => cell_regrown x2 dd os
      have HB2 : Hid (∀ dd os, Below w.heap.size w (grow (redrawn (w.alloc (.cells #[.int .i64 z0, .int .i64 (k : Int), .int .i64 z2] 68)) dd) os)) := fun dd os => Below.on HB.out (below_regrown _ dd os)
      clear hz hz1 hoh hn hj hk ht
      have hcs : (z0 = 3 ∨ z0 = 8 ∨ z0 = 9 ∨ z0 = 40 ∨ z0 = 95 ∨ z0 = 96 ∨ z0 = 97) ∨ ¬ (z0 = 3 ∨ z0 = 8 ∨ z0 = 9 ∨ z0 = 40 ∨ z0 = 95 ∨ z0 = 96 ∨ z0 = 97) := Decidable.em _
      rcases hcs with hcs | hcs
      · rw [if_pos hcs]
        rcases hcs with rfl | rfl | rfl | rfl | rfl | rfl | rfl
        all_goals
          go_enter Tryz.func31, Tryz.ntmps31
          go_wp2_with fail
          refine wp_region_quiet_below (by kernel_rfl) (by kernel_rfl) ?_
          repeat (go_big_quiet_step (fail))
          refine wpQuiet_nil ?_
          rintro _ ⟨⟨dq, osq⟩, rfl⟩
          go_wp2_with fail
          go_ret
          exact ⟨rfl, HB2.out _ _⟩
      · rw [if_neg hcs]
        have r3 : (z0 == 3) = false := beq_no (by omega)
        have r8 : (z0 == 8) = false := beq_no (by omega)
        have r9 : (z0 == 9) = false := beq_no (by omega)
        have r40 : (z0 == 40) = false := beq_no (by omega)
        have r95 : (z0 == 95) = false := beq_no (by omega)
        have r96 : (z0 == 96) = false := beq_no (by omega)
        have r97 : (z0 == 97) = false := beq_no (by omega)
        clear hcs h66
        go_enter Tryz.func31, Tryz.ntmps31
        go_wp2_with fail
        refine wp_region_quiet_below (by kernel_rfl) (by kernel_rfl) ?_
        repeat (go_big_quiet_step (fail))
        refine wpQuiet_nil ?_
        rintro _ ⟨⟨dq, osq⟩, rfl⟩
        go_wp2_with fail
        go_ret
        exact ⟨ret_int (by omega), HB2.out _ _⟩
end Go.Proofs.YtboidkmnkicoeaaGreatDoor

/- asm.draft.check, walked. -/
namespace Go.Proofs.YtboidkmnkicoeaaGreatDoor
open Go.RowKit Go.Sort

theorem DrAt.mo {N b : Nat} {d : Dr} {vh : Value} {gs : List Fn} {B : Nat} {W : World} {ta fa : Option Addr} {tc fc : Nat} (h : DrAt N b d (.slice ta (d.ths.take 20).length tc) (.slice fa gs.length fc) vh gs B W) (ho : ∀ z ∈ d.ths, I64 z) : Mo.In W ⟨ta, tc, d.ths.take 20, fa, fc, gs⟩ := by
  have hgl : gs.length ≤ 33 := by have := h.tr.1; omega
  refine ⟨⟨?_, own_row h.ot (fun _ => rfl) (by omega)⟩, fun z hz => ho z (List.mem_of_mem_take hz), ⟨?_, own_row h.of (fun _ => rfl) (by omega)⟩, fun g hg => (h.og g hg).2.in (h.og g hg).1⟩
  · show (d.ths.take 20).length * 8 ≤ _
    rw [List.length_take]; omega
  · show gs.length * 80 ≤ _
    omega
/-- What check answers. -/
def ckE (d : Dr) : Int := (mayZ (moD d)).1
def ckL (d : Dr) : Int := if (mayZ (moD d)).1 = 0 then 0 else fltN d (mayZ (moD d))
set_option maxRecDepth 100000 in
set_option maxHeartbeats 2000000 in
theorem check_any (N b : Nat) (d : Dr) (vt vf vh : Value) (gs : List Fn) (B : Nat) (w : World) (h : Env w) (hd : DrAt N b d vt vf vh gs B w) (n : Nat) (hn : n ≤ 1000000000000000) (hk : DOk n d) :
    Calls Tryz.prog 13 #[.pointer (some ⟨b, 0, none⟩)] w fun e w' => e = .returned (.tuple #[.int .i64 (ckE d), .int .i64 (ckL d)]) ∧ Below w.heap.size w w' := by
  obtain ⟨ta, tc, rfl⟩ := gown_form hd.ot
  obtain ⟨fa, fc, rfl⟩ := gown_form hd.of
  obtain ⟨p0, p1, p2⟩ := hd.cell
  have HM := Hid.mk' (may_any _ w h.tab (hd.mo hk.ths))
  obtain ⟨hz, _⟩ := tr_may hd.tr hk.er ta tc fa fc
  rw [hz] at HM
  have hgl : gs.length ≤ 33 := by have := hd.tr.1; omega
  have hle := may_le (m := ⟨ta, tc, d.ths.take 20, fa, fc, gs⟩) (by show (d.ths.take 20).length ≤ 20; rw [List.length_take]; omega) (fun f hf => ⟨(hd.og f hf).2.2.2.2.1, (hd.og f hf).2.2.2.2.2.2.1⟩)
  rw [hz] at hle
  have HLN : Hid ((mayZ (moD d)).1 ≠ 0 → ∀ w', Below w.heap.size w w' → Calls Tryz.prog 31 #[.pointer (some ⟨b, 0, none⟩), .agg #[.int .i64 (mayZ (moD d)).1, .int .i64 (mayZ (moD d)).2.1, .int .i64 (mayZ (moD d)).2.2]] w' fun e w'' => e = .returned (.int .i64 (fltN d (mayZ (moD d)))) ∧ Below w'.heap.size w' w'') := fun hne w' hb => by
    have htl : decide (16 < (d.ths.take 20).length) = decide (d.ths.length > 16) := by rw [List.length_take]; rw [Bool.eq_iff_iff]; simp; omega
    by_cases hq : (mayZ (moD d)).1 = 66 ∨ d.ths.length > 16
    · have := line_any N b d _ _ _ gs B w' (hd.stay hb) (mayZ (moD d)).1 (mayZ (moD d)).2.1 (mayZ (moD d)).2.2 0 (by omega) (by omega) (fun hc => absurd (hq.imp id (fun h => by rw [htl]; exact decide_eq_true h)) hc)
      have e1 : fltN d (mayZ (moD d)) = 1 := if_pos hq
      have e2 : lnZ (decide (16 < (d.ths.take 20).length)) ((0 : Nat) : Int) (mayZ (moD d)).1 (mayZ (moD d)).2.2 = 1 := if_pos (hq.imp id (fun h => by rw [htl]; exact decide_eq_true h))
      rw [e1]
      rw [e2] at this
      exact this
    · have hat := may_at hne (fun e => hq (.inl e)) (fun e => hq (.inr e))
      have hfl : (moD d).funcs.length = d.fs.length := rfl
      rw [hfl, ← hk.len] at hat
      have hkl : (mayZ (moD d)).2.1.toNat < d.hs.length := by omega
      have hget : d.hs[(mayZ (moD d)).2.1.toNat]? = some d.hs[(mayZ (moD d)).2.1.toNat] := List.getElem?_eq_getElem hkl
      have hb1 := hk.hs _ (List.getElem_mem hkl)
      have := line_any N b d _ _ _ gs B w' (hd.stay hb) (mayZ (moD d)).1 (mayZ (moD d)).2.1 (mayZ (moD d)).2.2 d.hs[(mayZ (moD d)).2.1.toNat] (by omega) (by omega) (fun _ => ⟨(mayZ (moD d)).2.1.toNat, by omega, by rw [List.getElem?_take, if_pos (by omega), hget]⟩)
      have hq2 : ¬ ((mayZ (moD d)).1 = 66 ∨ decide (16 < (d.ths.take 20).length) = true) := fun hc => hq (hc.imp id (fun h => by rw [htl] at h; exact of_decide_eq_true h))
      have e1 : fltN d (mayZ (moD d)) = lnZ (decide (16 < (d.ths.take 20).length)) ((d.hs[(mayZ (moD d)).2.1.toNat] : Nat) : Int) (mayZ (moD d)).1 (mayZ (moD d)).2.2 := by
        unfold fltN lnZ
        rw [if_neg hq, if_neg hq2, List.getD_eq_getElem?_getD, hget]
        rfl
      rw [e1]
      exact this
  have HZ0 := Hid.mk' (fun hq => may_zero (m := moD d) hq)
  unfold ckE ckL
  generalize fltN d (mayZ (moD d)) = ln at *
  generalize mayZ (moD d) = z at *
  obtain ⟨z0, z1, z2⟩ := z
  unfold fltV at HM
  unfold Mo.val at HM
  simp only at *
  clear hd hk h hz hle
  generalize (d.ths.take 20).length = tl at *
  obtain ⟨cl, hcl⟩ : ∃ cl, (if z0 = 0 then 0 else ln) = cl := ⟨_, rfl⟩
  rw [hcl]
  have HCL := Hid.mk' hcl
  clear hcl
  go_enter Tryz.func13, Tryz.ntmps13
  go_wp2_with fail
  refine HM.out.mono ?_
  rintro e w1 ⟨rfl, hb1⟩
  have hb2 := Below.one hb1 (.cells #[.int .i64 z0, .int .i64 z1, .int .i64 z2] 68)
  have xr := heap_alloc_new w1 (.cells #[.int .i64 z0, .int .i64 z1, .int .i64 z2] 68)
  have x0 := cell_of_obj xr (j := 0) (v := .int .i64 z0) rfl
  have x1 := cell_of_obj xr (j := 1) (v := .int .i64 z1) rfl
  have x2 := cell_of_obj xr (j := 2) (v := .int .i64 z2) rfl
  by_cases hz : z0 = 0
  · subst hz
    have hc0 := HCL.out
    rw [if_pos rfl] at hc0
    subst hc0
    clear HCL
    go_wp2_with fail
    go_ret2
    exact ⟨rfl, hb2⟩
  · have hq : (z0 == 0) = false := beq_no hz
    have HL2 := Hid.mk' (HLN.out hz)
    have hc0 := HCL.out
    rw [if_neg hz] at hc0
    subst hc0
    clear HCL
    have HB2 := Hid.mk' hb2
    clear hz HLN
    go_wp2_with fail
    have e0 := fun dd os => cell_regrown x0 dd os
    have e1 := fun dd os => cell_regrown x1 dd os
    have e2 := fun dd os => cell_regrown x2 dd os
    have hbg := Hid.mk' fun dd os => Below.on HB2.out (below_regrown (w1.alloc (.cells #[.int .i64 z0, .int .i64 z1, .int .i64 z2] 68)) dd os)
    refine wp_region_quiet_below (by kernel_rfl) (by kernel_rfl) ?_
    repeat (go_big_quiet_step (first | (go_at_call 31; with_reducible exact Calls.regrown_of (HL2.out _ (hbg.out _ _)))))
    refine wpQuiet_nil ?_
    rintro _ ⟨⟨dq, osq⟩, rfl⟩
    go_wp2_with fail
    go_ret2
    exact ⟨rfl, hbg.out _ _⟩
end Go.Proofs.YtboidkmnkicoeaaGreatDoor
