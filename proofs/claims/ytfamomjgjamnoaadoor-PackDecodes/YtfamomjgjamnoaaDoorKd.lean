/- pack's writer of modules: a function. -/
import Derived.Test.YtfamomjgjamnoaaDoorKc
namespace Go.Proofs.YtfamomjgjamnoaaDoor
open Go.RowKit Go.Sort

theorem flat_more {α : Type} {g : α → Bt} {l : List α} {j : Nat} (h : j < l.length) : (l.take (j + 1)).flatMap g = (l.take j).flatMap g ++ g l[j] := by
  rw [List.take_add_one, List.getElem?_eq_getElem h]
  show (l.take j ++ [l[j]]).flatMap g = _
  rw [List.flatMap_append]; simp
theorem flat_le {α : Type} {g : α → Bt} (l : List α) (j : Nat) : ((l.take j).flatMap g).length ≤ (l.flatMap g).length := by
  have : l.flatMap g = (l.take j).flatMap g ++ (l.drop j).flatMap g := by rw [← List.flatMap_append, List.take_append_drop]
  rw [this, List.length_append]; omega
abbrev fnC (f : Fn) : Array Value := #[.string f.name, .slice f.pa f.params.length f.pc, .int .i64 f.regs, .int .i64 f.words, .slice f.ca f.code.length f.cc]
set_option maxRecDepth 100000 in
set_option maxHeartbeats 8000000 in
theorem wfunc_any (w0 : World) (b : Nat) (acc : Bt) (v : Value) (w : World) (f : Fn) (h : WrAt w0.heap.size b acc v w) (hb0 : Below w0.heap.size w0 w) (hf : f.In w0) (hl : (acc ++ fnB f).length ≤ 80000000) :
    Calls Tryd.prog 32 #[.pointer (some ⟨b, 0, none⟩), f.val] w (WrP w0.heap.size b (acc ++ fnB f) w) := by
  have hbo := Below.one (Below.refl _ w) (.cells (fnC f) 45)
  have hN : w0.heap.size ≤ w.heap.size := hb0.size
  have hne : w.heap.size ≠ b := by have := h.lt; omega
  have hlb := h.lt
  have HK := Hid.mk' (Kp.stay (b := b) hN hbo)
  have HW := Hid.mk' (h.stay hbo)
  have HX := Hid.mk' (heap_alloc_new w (.cells (fnC f) 45))
  have HB := Hid.mk' hb0
  have HF := Hid.mk' hf
  have hpl : f.params.length * 16 ≤ 140737488351232 := hf.2.2.2.1.1
  have hcl : f.code.length * 40 ≤ 140737488351232 := hf.2.2.2.2.2.1.1
  have hnl := hf.1
  have hsl := ba_len f.name
  have HE : Hid (acc ++ fnB f = acc ++ w1B f.name.size ++ f.name.data.toList ++ w1B f.params.length ++ f.params.flatMap spB ++ w1B f.regs ++ w2B f.words ++ w2B f.code.length ++ f.code.flatMap insB) := (by simp [fnB] : _ = _)
  rw [HE.out] at hl ⊢
  obtain ⟨A1, e1⟩ : ∃ A, acc ++ w1B f.name.size = A := ⟨_, rfl⟩
  rw [e1] at hl ⊢
  obtain ⟨A2, e2⟩ : ∃ A, A1 ++ f.name.data.toList = A := ⟨_, rfl⟩
  rw [e2] at hl ⊢
  obtain ⟨A3, e3⟩ : ∃ A, A2 ++ w1B f.params.length = A := ⟨_, rfl⟩
  rw [e3] at hl ⊢
  obtain ⟨A4, e4⟩ : ∃ A, A3 ++ f.params.flatMap spB = A := ⟨_, rfl⟩
  rw [e4] at hl ⊢
  obtain ⟨A5, e5⟩ : ∃ A, A4 ++ w1B f.regs = A := ⟨_, rfl⟩
  rw [e5] at hl ⊢
  obtain ⟨A6, e6⟩ : ∃ A, A5 ++ w2B f.words = A := ⟨_, rfl⟩
  rw [e6] at hl ⊢
  obtain ⟨A7, e7⟩ : ∃ A, A6 ++ w2B f.code.length = A := ⟨_, rfl⟩
  rw [e7] at hl ⊢
  obtain ⟨A8, e8⟩ : ∃ A, A7 ++ f.code.flatMap insB = A := ⟨_, rfl⟩
  rw [e8] at hl ⊢
  have l1 : A1.length = acc.length + 1 := by rw [← e1, List.length_append, w1B_len]
  have l2 : A2.length = A1.length + f.name.size := by rw [← e2, List.length_append, hsl]
  have l3 : A3.length = A2.length + 1 := by rw [← e3, List.length_append, w1B_len]
  have l4 : A4.length = A3.length + (f.params.flatMap spB).length := by rw [← e4, List.length_append]
  have l5 : A5.length = A4.length + 1 := by rw [← e5, List.length_append, w1B_len]
  have l6 : A6.length = A5.length + 2 := by rw [← e6, List.length_append, w2B_len]
  have l7 : A7.length = A6.length + 2 := by rw [← e7, List.length_append, w2B_len]
  have l8 : A8.length = A7.length + (f.code.flatMap insB).length := by rw [← e8, List.length_append]
  have HC0 : Hid (∀ (v : Value) (w : World), WrAt w0.heap.size b acc v w → Calls Tryd.prog 30 #[.pointer (some ⟨b, 0, none⟩), .int .i64 f.name.size] w (WrP w0.heap.size b A1 w)) := fun v w h => by
    have := wbyte_any w0.heap.size b acc v w f.name.size h (by omega)
    rw [e1] at this
    exact this
  have HC1 : Hid (∀ (v : Value) (w : World), WrAt w0.heap.size b A1 v w → Calls Tryd.prog 29 #[.pointer (some ⟨b, 0, none⟩), .string f.name] w (WrP w0.heap.size b A2 w)) := fun v w h => by
    have := wtext_any w0.heap.size b A1 f.name.data.toList v w h (by omega)
    rw [tb_of, e2] at this
    exact this
  have HC2 : Hid (∀ (v : Value) (w : World), WrAt w0.heap.size b A2 v w → Calls Tryd.prog 30 #[.pointer (some ⟨b, 0, none⟩), .int .i64 f.params.length] w (WrP w0.heap.size b A3 w)) := fun v w h => by
    have := wbyte_any w0.heap.size b A2 v w f.params.length h (by omega)
    rw [e3] at this
    exact this
  have HC3 : Hid (∀ (v : Value) (w : World), WrAt w0.heap.size b A4 v w → Calls Tryd.prog 30 #[.pointer (some ⟨b, 0, none⟩), .int .i64 f.regs] w (WrP w0.heap.size b A5 w)) := fun v w h => by
    have := wbyte_any w0.heap.size b A4 v w f.regs h (by omega)
    rw [e5] at this
    exact this
  have HC4 : Hid (∀ (v : Value) (w : World), WrAt w0.heap.size b A5 v w → Calls Tryd.prog 46 #[.pointer (some ⟨b, 0, none⟩), .int .i64 f.words] w (WrP w0.heap.size b A6 w)) := fun v w h => by
    have := wshort_any w0.heap.size b A5 v w f.words h (by omega)
    rw [e6] at this
    exact this
  have HC5 : Hid (∀ (v : Value) (w : World), WrAt w0.heap.size b A6 v w → Calls Tryd.prog 46 #[.pointer (some ⟨b, 0, none⟩), .int .i64 f.code.length] w (WrP w0.heap.size b A7 w)) := fun v w h => by
    have := wshort_any w0.heap.size b A6 v w f.code.length h (by omega)
    rw [e7] at this
    exact this
  have HWD : Hid (∀ (A : Bt) (z : Int) (v : Value) (w : World), A.length ≤ 80000000 → WrAt w0.heap.size b A v w → Calls Tryd.prog 31 #[.pointer (some ⟨b, 0, none⟩), .int .i64 z] w (WrP w0.heap.size b (A ++ w8B z) w)) := fun A z v w hl h => wword_any _ b A v w z h (by omega)
  have HIN : Hid (∀ (A : Bt) (x : Is) (v : Value) (w : World), A.length ≤ 80000000 → WrAt w0.heap.size b A v w → Calls Tryd.prog 47 #[.pointer (some ⟨b, 0, none⟩), x.val] w (WrP w0.heap.size b (A ++ insB x) w)) := fun A x v w hl h => winstr_any _ b A v w x h (by omega)
  have HE4 := Hid.mk' e4
  have HE8 := Hid.mk' e8
  clear e1 e2 e3 e4 e5 e6 e7 e8 HE hbo h hb0 hf
  unfold Fn.val
  have x0 := cell_of_obj HX.out (j := 0) (v := .string f.name) rfl
  go_enter Tryd.func32, Tryd.ntmps32
  go_wp2_with fail
  generalize w.alloc (.cells (fnC f) 45) = V0 at *
  generalize hG : w.heap.size = X at *
  have HG := Hid.mk' hG
  clear hG
  go_region_with (go_at_call 30; refine (HC0.out _ _ HW.out.drew).mono ?_; rintro e Y0 ⟨rfl, ⟨y0, q0⟩, hq0⟩)
  replace HW := Hid.mk' q0
  replace HK := Hid.mk' (HK.out.drew hq0)
  replace HX := Hid.mk' (hq0.o _ _ _ _ HX.out (by decide) hne)
  clear hq0 q0 HC0
  have x0 := cell_of_obj HX.out (j := 0) (v := .string f.name) rfl
  go_wp2_with fail
  go_region_with (go_at_call 29; refine (HC1.out _ _ HW.out.drew).mono ?_; rintro e Y1 ⟨rfl, ⟨y1, q1⟩, hq1⟩)
  replace HW := Hid.mk' q1
  replace HK := Hid.mk' (HK.out.drew hq1)
  replace HX := Hid.mk' (hq1.o _ _ _ _ HX.out (by decide) hne)
  clear hq1 q1 HC1
  have x1 := cell_of_obj HX.out (j := 1) (v := .slice f.pa f.params.length f.pc) rfl
  go_wp2_with fail
  go_region_with (go_at_call 30; refine (HC2.out _ _ HW.out.drew).mono ?_; rintro e Y2 ⟨rfl, ⟨y2, q2⟩, hq2⟩)
  replace HW := Hid.mk' q2
  replace HK := Hid.mk' (HK.out.drew hq2)
  replace HX := Hid.mk' (hq2.o _ _ _ _ HX.out (by decide) hne)
  clear hq2 q2 HC2
  have x1 := cell_of_obj HX.out (j := 1) (v := .slice f.pa f.params.length f.pc) rfl
  clear x0
  go_wp2_with fail
  go_loopw [31] (fun t31 wr => ∃ (j : Nat), j ≤ f.params.length ∧ t31 = .int .i64 j ∧ (∃ v', WrAt w0.heap.size b (A3 ++ (f.params.take j).flatMap spB) v' wr) ∧ Kp w0.heap.size b w wr ∧ wr.heap[X]? = some (.cells (fnC f) 45) ∧ Below w0.heap.size w0 wr) (fun t31 _ => f.params.length - (intOf t31).toNat)
  case atStart => exact ⟨0, Nat.zero_le _, rfl, ⟨_, by simpa using HW.out⟩, HK.out, HX.out, HB.out.trans HK.out.bl⟩
  case round =>
    obtain ⟨j, hj, rfl, ⟨v1, h1⟩, hk1, hx1, hb1⟩ := hrel
    clear HW HK HX
    by_cases hlt : j < f.params.length
    · have hli : (j : Int) < (f.params.length : Int) := by omega
      obtain ⟨bp, op, ea, c0, c1⟩ := sps_at (show Sps wr f.pa f.params from ⟨HF.out.2.2.2.1.1, fun i cs hi => by
        obtain ⟨b', o', e', hc'⟩ := HF.out.2.2.2.1.2 i cs hi
        exact ⟨b', o', e', fun j v hj => (hb1.cell (lt_of_cell (hc' j v hj))).trans (hc' j v hj)⟩⟩) hlt
      have HFM := Hid.mk' (flat_more (g := spB) hlt)
      have HFL := Hid.mk' (flat_le (g := spB) f.params (j + 1))
      have HI := Hid.mk' (show I64 f.params[j].1 ∧ I64 f.params[j].2 from HF.out.2.2.2.2.1 _ (List.getElem_mem hlt))
      generalize f.params[j] = p at *
      obtain ⟨p1, p2⟩ := p
      simp only at c0 c1 HFM HI
      have hla : (A3 ++ (f.params.take j).flatMap spB).length ≤ 80000000 := by
        have h1 := HFL.out
        rw [HFM.out, List.length_append] at h1
        rw [List.length_append]; omega
      have hlc : (A3 ++ (f.params.take j).flatMap spB ++ w8B p1).length ≤ 80000000 := by
        have h1 := HFL.out
        rw [HFM.out, List.length_append] at h1
        have h2 : (spB (p1, p2)).length = 16 := by unfold spB; rw [List.length_append, w8B_len, w8B_len]
        rw [List.length_append, List.length_append, w8B_len]; omega
      have HP : Hid (A3 ++ (f.params.take (j + 1)).flatMap spB = A3 ++ (f.params.take j).flatMap spB ++ w8B p1 ++ w8B p2) := (by rw [HFM.out]; simp [spB] : _ = _)
      generalize A3 ++ (f.params.take j).flatMap spB = B1 at *
      have HD1 := Hid.mk' (fun v w => HWD.out B1 p1 v w hla)
      have HD2 := Hid.mk' (fun v w => HWD.out (B1 ++ w8B p1) p2 v w hlc)
      generalize B1 ++ w8B p1 ++ w8B p2 = B3 at *
      generalize B1 ++ w8B p1 = B2 at *
      have hbs := Below.one (Below.refl _ wr) (.cells #[.int .i64 p1, .int .i64 p2] 56)
      have hws : b < wr.heap.size := h1.lt
      have hnw : w0.heap.size ≤ wr.heap.size := hb1.size
      have hnp : wr.heap.size ≠ b := by omega
      have HW := Hid.mk' (h1.stay hbs)
      have HK := Hid.mk' (hk1.on (Kp.stay hnw hbs))
      have HX := Hid.mk' (blk_stay hx1 hbs)
      have HS := Hid.mk' (heap_alloc_new wr (.cells #[.int .i64 p1, .int .i64 p2] 56))
      rw [ea] at *
      clear h1 hk1 hx1 hb1 hbs hla hlc HFM HFL HI
      go_upto_region 7 with fail
      generalize wr.alloc (.cells #[.int .i64 p1, .int .i64 p2] 56) = V1 at *
      generalize wr.heap.size = Xp at *
      clear c0 c1
      have s0 := cell_of_obj HS.out (j := 0) (v := .int .i64 p1) rfl
      go_region_with (go_at_call 31; refine (HD1.out _ _ HW.out.drew).mono ?_; rintro e Y7 ⟨rfl, ⟨y7, q7⟩, hq7⟩)
      replace HW := Hid.mk' q7
      replace HK := Hid.mk' (HK.out.drew hq7)
      replace HX := Hid.mk' (hq7.o _ _ _ _ HX.out (by decide) hne)
      replace HS := Hid.mk' (hq7.o _ _ _ _ HS.out (by decide) hnp)
      clear hq7 q7 HD1 s0
      have s1 := cell_of_obj HS.out (j := 1) (v := .int .i64 p2) rfl
      go_wp2_with fail
      go_region_with (go_at_call 31; refine (HD2.out _ _ HW.out.drew).mono ?_; rintro e Y8 ⟨rfl, ⟨y8, q8⟩, hq8⟩)
      replace HW := Hid.mk' q8
      replace HK := Hid.mk' (HK.out.drew hq8)
      replace HX := Hid.mk' (hq8.o _ _ _ _ HX.out (by decide) hne)
      clear hq8 q8 HD2 s1 HS
      go_wp2_with fail
      go_roundw
      case rel => exact ⟨j + 1, by omega, by go_num, ⟨_, by rw [HP.out]; exact HW.out⟩, HK.out, HX.out, HB.out.trans HK.out.bl⟩
      case measure => simp [intOf]; omega
    · have hje : j = f.params.length := by omega
      rw [hje, List.take_length, HE4.out] at h1
      have HW := Hid.mk' h1
      have HK := Hid.mk' hk1
      have HX := Hid.mk' hx1
      have x2 := cell_of_obj hx1 (j := 2) (v := .int .i64 f.regs) rfl
      clear h1 hk1 hx1 hb1 hje
      go_wp2_with fail
      go_region_with (go_at_call 30; refine (HC3.out _ _ HW.out.drew).mono ?_; rintro e Y3 ⟨rfl, ⟨y3, q3⟩, hq3⟩)
      replace HW := Hid.mk' q3
      replace HK := Hid.mk' (HK.out.drew hq3)
      replace HX := Hid.mk' (hq3.o _ _ _ _ HX.out (by decide) hne)
      clear hq3 q3 HC3
      have x3 := cell_of_obj HX.out (j := 3) (v := .int .i64 f.words) rfl
      go_wp2_with fail
      go_region_with (go_at_call 46; refine (HC4.out _ _ HW.out.drew).mono ?_; rintro e Y4 ⟨rfl, ⟨y4, q4⟩, hq4⟩)
      replace HW := Hid.mk' q4
      replace HK := Hid.mk' (HK.out.drew hq4)
      replace HX := Hid.mk' (hq4.o _ _ _ _ HX.out (by decide) hne)
      clear hq4 q4 HC4
      have x4 := cell_of_obj HX.out (j := 4) (v := .slice f.ca f.code.length f.cc) rfl
      go_wp2_with fail
      go_region_with (go_at_call 46; refine (HC5.out _ _ HW.out.drew).mono ?_; rintro e Y5 ⟨rfl, ⟨y5, q5⟩, hq5⟩)
      replace HW := Hid.mk' q5
      replace HK := Hid.mk' (HK.out.drew hq5)
      replace HX := Hid.mk' (hq5.o _ _ _ _ HX.out (by decide) hne)
      clear hq5 q5 HC5
      have x4 := cell_of_obj HX.out (j := 4) (v := .slice f.ca f.code.length f.cc) rfl
      clear x2 x3
      go_wp2_with fail
      go_loopw [70] (fun t70 wr => ∃ (j : Nat), j ≤ f.code.length ∧ t70 = .int .i64 j ∧ (∃ v', WrAt w0.heap.size b (A7 ++ (f.code.take j).flatMap insB) v' wr) ∧ Kp w0.heap.size b w wr ∧ Below w0.heap.size w0 wr) (fun t70 _ => f.code.length - (intOf t70).toNat)
      case atStart => exact ⟨0, Nat.zero_le _, rfl, ⟨_, by simpa using HW.out⟩, HK.out, HB.out.trans HK.out.bl⟩
      case round =>
        obtain ⟨j, hj, rfl, ⟨v1, h1⟩, hk1, hb1⟩ := hrel
        clear HW HK HX
        by_cases hlt : j < f.code.length
        · have hli : (j : Int) < (f.code.length : Int) := by omega
          obtain ⟨bp, op, ea, c0, c1, c2, c3, c4⟩ := iss_at (show Iss wr f.ca f.code from ⟨HF.out.2.2.2.2.2.1.1, fun i cs hi => by
            obtain ⟨b', o', e', hc'⟩ := HF.out.2.2.2.2.2.1.2 i cs hi
            exact ⟨b', o', e', fun j v hj => (hb1.cell (lt_of_cell (hc' j v hj))).trans (hc' j v hj)⟩⟩) hlt
          have HFM := Hid.mk' (flat_more (g := insB) hlt)
          have HFL := Hid.mk' (flat_le (g := insB) f.code (j + 1))
          generalize f.code[j] = x at *
          have hla : (A7 ++ (f.code.take j).flatMap insB).length ≤ 80000000 := by
            have h1 := HFL.out
            rw [HFM.out, List.length_append] at h1
            rw [List.length_append]; omega
          have HP : Hid (A7 ++ (f.code.take (j + 1)).flatMap insB = A7 ++ (f.code.take j).flatMap insB ++ insB x) := (by rw [HFM.out]; simp : _ = _)
          generalize A7 ++ (f.code.take j).flatMap insB = B1 at *
          have HD1 := Hid.mk' (fun v w => HIN.out B1 x v w hla)
          generalize B1 ++ insB x = B2 at *
          have hbs := Below.one (Below.refl _ wr) (.cells (isC x) 58)
          have hnw : w0.heap.size ≤ wr.heap.size := hb1.size
          have HW := Hid.mk' (h1.stay hbs)
          have HK := Hid.mk' (hk1.on (Kp.stay hnw hbs))
          unfold Is.val at HD1
          rw [ea] at *
          clear h1 hk1 hb1 hbs hla HFM HFL
          go_wp2_with (go_at_call 47; refine (HD1.out _ _ HW.out).mono ?_; rintro e Y9 ⟨rfl, ⟨y9, q9⟩, hq9⟩)
          replace HW := Hid.mk' q9
          replace HK := Hid.mk' (HK.out.on hq9)
          clear hq9 q9 HD1
          go_roundw
          case rel => exact ⟨j + 1, by omega, by go_num, ⟨_, by rw [HP.out]; exact HW.out⟩, HK.out, HB.out.trans HK.out.bl⟩
          case measure => simp [intOf]; omega
        · have hje : j = f.code.length := by omega
          rw [hje, List.take_length, HE8.out] at h1
          clear hje
          go_wp2_with fail
          go_end0
          exact ⟨rfl, ⟨_, h1⟩, hk1⟩
end Go.Proofs.YtfamomjgjamnoaaDoor
