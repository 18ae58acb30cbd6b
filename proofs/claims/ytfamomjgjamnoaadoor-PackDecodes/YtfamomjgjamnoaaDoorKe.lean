/- pack's writer of modules: a module; pack.Encode. -/
import Derived.Test.YtfamomjgjamnoaaDoorKd
import Derived.Test.YtfamomjgjamnoaaDoorCl
import Derived.Test.YtfamomjgjamnoaaDoorJe
namespace Go.Proofs.YtfamomjgjamnoaaDoor
open Go.RowKit Go.Sort

abbrev moC (m : Mo) : Array Value := #[.slice m.ta m.ths.length m.tc, .slice m.fa m.funcs.length m.fc]
set_option maxRecDepth 100000 in
set_option maxHeartbeats 8000000 in
theorem wmod_any (w0 : World) (b : Nat) (v : Value) (w : World) (m : Mo) (h : WrAt w0.heap.size b [] v w) (hb0 : Below w0.heap.size w0 w) (hm : m.In w0) (hl : (moB m).length ≤ 80000000) :
    Calls Tryd.prog 17 #[.pointer (some ⟨b, 0, none⟩), m.val] w (WrP w0.heap.size b (moB m) w) := by
  have hbo := Below.one (Below.refl _ w) (.cells (moC m) 25)
  have hN : w0.heap.size ≤ w.heap.size := hb0.size
  have hne : w.heap.size ≠ b := by have := h.lt; omega
  have HK := Hid.mk' (Kp.stay (b := b) hN hbo)
  have HW := Hid.mk' (h.stay hbo)
  have HX := Hid.mk' (heap_alloc_new w (.cells (moC m) 25))
  have HB := Hid.mk' hb0
  have HF := Hid.mk' hm
  have hpl : m.ths.length * 8 ≤ 140737488351232 := hm.1.1
  have hcl : m.funcs.length * 80 ≤ 140737488351232 := hm.2.2.1.1
  have HE : Hid (moB m = [] ++ sigB ++ w1B m.ths.length ++ m.ths.flatMap w8B ++ w1B m.funcs.length ++ m.funcs.flatMap fnB) := (by simp [moB] : _ = _)
  rw [HE.out] at hl ⊢
  obtain ⟨A1, e1⟩ : ∃ A, [] ++ sigB = A := ⟨_, rfl⟩
  rw [e1] at hl ⊢
  obtain ⟨A2, e2⟩ : ∃ A, A1 ++ w1B m.ths.length = A := ⟨_, rfl⟩
  rw [e2] at hl ⊢
  obtain ⟨A3, e3⟩ : ∃ A, A2 ++ m.ths.flatMap w8B = A := ⟨_, rfl⟩
  rw [e3] at hl ⊢
  obtain ⟨A4, e4⟩ : ∃ A, A3 ++ w1B m.funcs.length = A := ⟨_, rfl⟩
  rw [e4] at hl ⊢
  obtain ⟨A5, e5⟩ : ∃ A, A4 ++ m.funcs.flatMap fnB = A := ⟨_, rfl⟩
  rw [e5] at hl ⊢
  have l1 : A1.length = 4 := by rw [← e1]; rfl
  have l2 : A2.length = A1.length + 1 := by rw [← e2, List.length_append, w1B_len]
  have l3 : A3.length = A2.length + (m.ths.flatMap w8B).length := by rw [← e3, List.length_append]
  have l4 : A4.length = A3.length + 1 := by rw [← e4, List.length_append, w1B_len]
  have l5 : A5.length = A4.length + (m.funcs.flatMap fnB).length := by rw [← e5, List.length_append]
  have HC0 : Hid (∀ (v : Value) (w : World), WrAt w0.heap.size b [] v w → Calls Tryd.prog 29 #[.pointer (some ⟨b, 0, none⟩), .string ⟨#[83, 70, 84, 1]⟩] w (WrP w0.heap.size b A1 w)) := fun v w h => by
    have := wtext_any w0.heap.size b [] sigB v w h (by simp [sigB])
    rw [e1] at this
    exact this
  have HC1 : Hid (∀ (v : Value) (w : World), WrAt w0.heap.size b A1 v w → Calls Tryd.prog 30 #[.pointer (some ⟨b, 0, none⟩), .int .i64 m.ths.length] w (WrP w0.heap.size b A2 w)) := fun v w h => by
    have := wbyte_any w0.heap.size b A1 v w m.ths.length h (by omega)
    rw [e2] at this
    exact this
  have HC3 : Hid (∀ (v : Value) (w : World), WrAt w0.heap.size b A3 v w → Calls Tryd.prog 30 #[.pointer (some ⟨b, 0, none⟩), .int .i64 m.funcs.length] w (WrP w0.heap.size b A4 w)) := fun v w h => by
    have := wbyte_any w0.heap.size b A3 v w m.funcs.length h (by omega)
    rw [e4] at this
    exact this
  have HWD : Hid (∀ (A : Bt) (z : Int) (v : Value) (w : World), A.length ≤ 80000000 → WrAt w0.heap.size b A v w → Calls Tryd.prog 31 #[.pointer (some ⟨b, 0, none⟩), .int .i64 z] w (WrP w0.heap.size b (A ++ w8B z) w)) := fun A z v w hl h => wword_any _ b A v w z h (by omega)
  have HFN : Hid (∀ (A : Bt) (f : Fn) (v : Value) (w : World), (A ++ fnB f).length ≤ 80000000 → f.In w0 → Below w0.heap.size w0 w → WrAt w0.heap.size b A v w → Calls Tryd.prog 32 #[.pointer (some ⟨b, 0, none⟩), f.val] w (WrP w0.heap.size b (A ++ fnB f) w)) := fun A f v w hl hf hb h => wfunc_any w0 b A v w f h hb hf hl
  have HE3 := Hid.mk' e3
  have HE5 := Hid.mk' e5
  clear e1 e2 e3 e4 e5 HE hbo h hb0 hm
  unfold Mo.val
  go_enter Tryd.func17, Tryd.ntmps17
  go_wp2_with fail
  generalize w.alloc (.cells (moC m) 25) = V0 at *
  generalize hG : w.heap.size = X at *
  have HG := Hid.mk' hG
  clear hG
  refine (HC0.out _ _ HW.out).mono ?_
  rintro e Y0 ⟨rfl, ⟨y0, q0⟩, hq0⟩
  replace HW := Hid.mk' q0
  replace HK := Hid.mk' (HK.out.on hq0)
  replace HX := Hid.mk' (hq0.o _ _ _ _ HX.out (by decide) hne)
  clear hq0 q0 HC0
  have x0 := cell_of_obj HX.out (j := 0) (v := .slice m.ta m.ths.length m.tc) rfl
  go_wp2_with fail
  go_region_with (go_at_call 30; refine (HC1.out _ _ HW.out.drew).mono ?_; rintro e Y1 ⟨rfl, ⟨y1, q1⟩, hq1⟩)
  replace HW := Hid.mk' q1
  replace HK := Hid.mk' (HK.out.drew hq1)
  replace HX := Hid.mk' (hq1.o _ _ _ _ HX.out (by decide) hne)
  clear hq1 q1 HC1
  have x0 := cell_of_obj HX.out (j := 0) (v := .slice m.ta m.ths.length m.tc) rfl
  go_wp2_with fail
  go_loopw [22] (fun t22 wr => ∃ (j : Nat), j ≤ m.ths.length ∧ t22 = .int .i64 j ∧ (∃ v', WrAt w0.heap.size b (A2 ++ (m.ths.take j).flatMap w8B) v' wr) ∧ Kp w0.heap.size b w wr ∧ wr.heap[X]? = some (.cells (moC m) 25) ∧ Below w0.heap.size w0 wr) (fun t22 _ => m.ths.length - (intOf t22).toNat)
  case atStart => exact ⟨0, Nat.zero_le _, rfl, ⟨_, by simpa using HW.out⟩, HK.out, HX.out, HB.out.trans HK.out.bl⟩
  case round =>
    obtain ⟨j, hj, rfl, ⟨v1, h1⟩, hk1, hx1, hb1⟩ := hrel
    clear HW HK HX
    by_cases hlt : j < m.ths.length
    · have hli : (j : Int) < (m.ths.length : Int) := by omega
      obtain ⟨bp, op, ea, c0⟩ := thr_at (HF.out.1.stay hb1) hlt
      have HFM := Hid.mk' (flat_more (g := w8B) hlt)
      have HFL := Hid.mk' (flat_le (g := w8B) m.ths (j + 1))
      generalize m.ths[j] = z at *
      have hla : (A2 ++ (m.ths.take j).flatMap w8B).length ≤ 80000000 := by
        have h1 := HFL.out
        rw [HFM.out, List.length_append] at h1
        rw [List.length_append]; omega
      have HP : Hid (A2 ++ (m.ths.take (j + 1)).flatMap w8B = A2 ++ (m.ths.take j).flatMap w8B ++ w8B z) := (by rw [HFM.out]; simp : _ = _)
      generalize A2 ++ (m.ths.take j).flatMap w8B = B1 at *
      have HD1 := Hid.mk' (fun v w => HWD.out B1 z v w hla)
      generalize B1 ++ w8B z = B2 at *
      have HW := Hid.mk' h1
      have HK := Hid.mk' hk1
      have HX := Hid.mk' hx1
      rw [ea] at *
      clear h1 hk1 hx1 hb1 hla HFM HFL
      go_wp2_with (go_at_call 31; refine (HD1.out _ _ HW.out).mono ?_; rintro e Y7 ⟨rfl, ⟨y7, q7⟩, hq7⟩)
      replace HW := Hid.mk' q7
      replace HK := Hid.mk' (HK.out.on hq7)
      replace HX := Hid.mk' (hq7.o _ _ _ _ HX.out (by decide) hne)
      clear hq7 q7 HD1
      go_roundw
      case rel => exact ⟨j + 1, by omega, by go_num, ⟨_, by rw [HP.out]; exact HW.out⟩, HK.out, HX.out, HB.out.trans HK.out.bl⟩
      case measure => simp [intOf]; omega
    · have hje : j = m.ths.length := by omega
      rw [hje, List.take_length, HE3.out] at h1
      have HW := Hid.mk' h1
      have HK := Hid.mk' hk1
      have HX := Hid.mk' hx1
      have x1 := cell_of_obj hx1 (j := 1) (v := .slice m.fa m.funcs.length m.fc) rfl
      clear h1 hk1 hx1 hb1 hje
      go_wp2_with fail
      go_region_with (go_at_call 30; refine (HC3.out _ _ HW.out.drew).mono ?_; rintro e Y3 ⟨rfl, ⟨y3, q3⟩, hq3⟩)
      replace HW := Hid.mk' q3
      replace HK := Hid.mk' (HK.out.drew hq3)
      replace HX := Hid.mk' (hq3.o _ _ _ _ HX.out (by decide) hne)
      clear hq3 q3 HC3
      have x1 := cell_of_obj HX.out (j := 1) (v := .slice m.fa m.funcs.length m.fc) rfl
      go_wp2_with fail
      go_loopw [42] (fun t42 wr => ∃ (j : Nat), j ≤ m.funcs.length ∧ t42 = .int .i64 j ∧ (∃ v', WrAt w0.heap.size b (A4 ++ (m.funcs.take j).flatMap fnB) v' wr) ∧ Kp w0.heap.size b w wr ∧ Below w0.heap.size w0 wr) (fun t42 _ => m.funcs.length - (intOf t42).toNat)
      case atStart => exact ⟨0, Nat.zero_le _, rfl, ⟨_, by simpa using HW.out⟩, HK.out, HB.out.trans HK.out.bl⟩
      case round =>
        obtain ⟨j, hj, rfl, ⟨v1, h1⟩, hk1, hb1⟩ := hrel
        clear HW HK HX
        by_cases hlt : j < m.funcs.length
        · have hli : (j : Int) < (m.funcs.length : Int) := by omega
          obtain ⟨bp, op, ea, c0, c1, c2, c3, c4⟩ := fns_at (HF.out.2.2.1.stay hb1) hlt
          have HFM := Hid.mk' (flat_more (g := fnB) hlt)
          have HFL := Hid.mk' (flat_le (g := fnB) m.funcs (j + 1))
          have HFI := Hid.mk' (HF.out.2.2.2 _ (List.getElem_mem hlt))
          generalize m.funcs[j] = f at *
          have hla : (A4 ++ (m.funcs.take j).flatMap fnB ++ fnB f).length ≤ 80000000 := by
            have h1 := HFL.out
            rw [HFM.out, List.length_append] at h1
            rw [List.length_append, List.length_append]; omega
          have HP : Hid (A4 ++ (m.funcs.take (j + 1)).flatMap fnB = A4 ++ (m.funcs.take j).flatMap fnB ++ fnB f) := (by rw [HFM.out]; simp : _ = _)
          generalize A4 ++ (m.funcs.take j).flatMap fnB = B1 at *
          have HD1 := Hid.mk' (fun v w => HFN.out B1 f v w hla HFI.out)
          generalize B1 ++ fnB f = B2 at *
          have hbs := Below.one (Below.refl _ wr) (.cells (fnC f) 45)
          have hnw : w0.heap.size ≤ wr.heap.size := hb1.size
          have HW := Hid.mk' (h1.stay hbs)
          have HK := Hid.mk' (hk1.on (Kp.stay hnw hbs))
          have HBB := Hid.mk' (hb1.trans (hbs.mono hnw))
          unfold Fn.val at HD1
          rw [ea] at *
          clear h1 hk1 hb1 hbs hla HFM HFL
          go_wp2_with (go_at_call 32; refine (HD1.out _ _ HBB.out HW.out).mono ?_; rintro e Y9 ⟨rfl, ⟨y9, q9⟩, hq9⟩)
          replace HW := Hid.mk' q9
          replace HK := Hid.mk' (HK.out.on hq9)
          clear hq9 q9 HD1
          go_roundw
          case rel => exact ⟨j + 1, by omega, by go_num, ⟨_, by rw [HP.out]; exact HW.out⟩, HK.out, HB.out.trans HK.out.bl⟩
          case measure => simp [intOf]; omega
        · have hje : j = m.funcs.length := by omega
          rw [hje, List.take_length, HE5.out] at h1
          clear hje
          go_wp2_with fail
          go_end0
          exact ⟨rfl, ⟨_, h1⟩, hk1⟩
end Go.Proofs.YtfamomjgjamnoaaDoor
