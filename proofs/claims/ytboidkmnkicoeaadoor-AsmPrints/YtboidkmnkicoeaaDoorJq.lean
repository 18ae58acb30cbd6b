/- The document's own Print. -/
import Derived.Test.YtboidkmnkicoeaaDoorJp
import Derived.Test.YtboidkmnkicoeaaDoorWa
import Derived.Test.YtboidkmnkicoeaaDoorEd
import Derived.Test.YtboidkmnkicoeaaDoorJe
namespace Go.Proofs.YtboidkmnkicoeaaDoor
open Go.RowKit Go.Sort

theorem hdT_next (f : Fn) {j : Nat} (h : j < f.params.length) : (hdU f (j + 1)).flatMap numT = (hdU f j).flatMap numT ++ (numT f.params[j].1 ++ numT f.params[j].2) := by
  have : hdU f (j + 1) = hdU f j ++ [f.params[j].1, f.params[j].2] := by
    unfold hdU
    rw [List.take_add_one, List.getElem?_eq_getElem h]
    show f.regs :: f.words :: ((f.params.take j ++ [f.params[j]]).flatMap fun s => [s.1, s.2]) = _
    rw [List.flatMap_append]
    rfl
  rw [this, List.flatMap_append]
  simp
theorem sp_num {A : ByteArray} {n : Int} (hA : tb (Lib.itoa n) = A) : (⟨#[32]⟩ : ByteArray) ++ A = tb (numT n) := by
  subst hA
  show tb [32] ++ tb (Lib.itoa n) = _
  rw [tb_app]; rfl
theorem sp_num2 {A B : ByteArray} {n k : Int} (hA : tb (Lib.itoa n) = A) (hB : tb (Lib.itoa k) = B) : (⟨#[32]⟩ : ByteArray) ++ A ++ ⟨#[32]⟩ ++ B = tb (numT n ++ numT k) := by
  rw [sp_num hA, ByteArray.append_assoc, sp_num hB, tb_app]
theorem hd_text {A B S : ByteArray} {n k : Int} (hA : tb (Lib.itoa n) = A) (hB : tb (Lib.itoa k) = B) : (⟨#[102, 117, 110, 99, 32]⟩ : ByteArray) ++ S ++ ⟨#[32]⟩ ++ A ++ ⟨#[32]⟩ ++ B = tb ((funcB ++ 32 :: S.data.toList) ++ (numT n ++ numT k)) := by
  have h := sp_num2 hA hB
  rw [fname_eq, ← tb_app (funcB ++ 32 :: S.data.toList) (numT n ++ numT k), ← h]
  simp only [ByteArray.append_assoc]
theorem itoa_sz {n : Int} {A : ByteArray} (h : I64 n) (hA : tb (Lib.itoa n) = A) : A.size ≤ 21 := by subst hA; rw [tb_size]; exact itoa_len h
set_option maxRecDepth 100000 in
set_option maxHeartbeats 8000000 in
theorem rprint_any (m : Mo) (w : World) (h : Env w) (hm : m.In w) : Calls Tryd.prog 8 #[m.val] w fun e w' => e = .returned (prnV m) ∧ Below w.heap.size w w' := by
  have hb0 := Below.one (Below.refl _ w) (.cells #[.slice m.ta m.ths.length m.tc, .slice m.fa m.funcs.length m.fc] 25)
  have hb1 := Below.one hb0 (.cells #[.int .i64 0, .int .i64 0, .int .i64 0] 29)
  have xm0 := heap_alloc_new w (.cells #[.slice m.ta m.ths.length m.tc, .slice m.fa m.funcs.length m.fc] 25)
  have xm := ((Below.one (Below.refl _ _) (.cells #[.int .i64 0, .int .i64 0, .int .i64 0] 29)).block _ (Array.getElem?_eq_some_iff.1 xm0).1).trans xm0
  have xf := heap_alloc_new (w.alloc (.cells #[.slice m.ta m.ths.length m.tc, .slice m.fa m.funcs.length m.fc] 25)) (.cells #[.int .i64 0, .int .i64 0, .int .i64 0] 29)
  rw [World.size_alloc] at xf
  have HM := Hid.mk' (rmay_any m _ (hm.stay hb1))
  have HP : Hid ((mayZ m).1 = 0 → mayZ m = (0, 0, 0) ∧ PrOk m ∧ prnT m = moT m) := fun hz => ⟨may_zero hz, may_pr hz, if_pos hz⟩
  have HN : Hid ((mayZ m).1 ≠ 0 → prnT m = []) := fun hz => if_neg hz
  have HE := Hid.mk' h
  have HI := Hid.mk' hm
  have HS : Hid (SO w m ((w.alloc (.cells #[.slice m.ta m.ths.length m.tc, .slice m.fa m.funcs.length m.fc] 25)).alloc (.cells #[.int .i64 0, .int .i64 0, .int .i64 0] 29))) := ⟨hb1, xm, xf⟩
  have x0 := cell_of_obj xm (j := 0) (v := .slice m.ta m.ths.length m.tc) rfl
  have x1 := cell_of_obj xm (j := 1) (v := .slice m.fa m.funcs.length m.fc) rfl
  clear h hm hb0 hb1 xm0 xm xf
  unfold prnV fltV at *
  generalize hz : mayZ m = z at *
  obtain ⟨z0, z1, z2⟩ := z
  have HZ := Hid.mk' hz
  clear hz
  generalize prnT m = t at *
  unfold Mo.val at *
  go_enter Tryd.func8, Tryd.ntmps8
  go_wp2_with fail
  generalize (w.alloc (.cells #[.slice m.ta m.ths.length m.tc, .slice m.fa m.funcs.length m.fc] 25)).alloc (.cells #[.int .i64 0, .int .i64 0, .int .i64 0] 29) = W1 at *
  refine HM.out.mono ?_
  rintro e W2 ⟨rfl, hb2⟩
  have hs2 : w.heap.size + 1 < W2.heap.size := by have h1 := (Array.getElem?_eq_some_iff.1 HS.out.2.2).1; have h2 := hb2.size; omega
  have hb3 := Below.one hb2 (.cells #[.int .i64 z0, .int .i64 z1, .int .i64 z2] 29)
  have HF := Hid.mk' (heap_alloc_new W2 (.cells #[.int .i64 z0, .int .i64 z1, .int .i64 z2] 29))
  replace HS := Hid.mk' (HS.out.stay hb3)
  have f0 := cell_of_obj HF.out (j := 0) (v := .int .i64 z0) rfl
  clear hb2 hb3 HM x0 x1
  by_cases hz0 : z0 = 0
  · subst hz0
    obtain ⟨hz, hpr, ht⟩ := HP.out rfl
    injection hz with _ hz
    injection hz with hz1 hz2
    subst hz1 hz2 ht
    have HPR := Hid.mk' hpr
    have HLEN := Hid.mk' (moT_len HI.out hpr)
    have hthl := HI.out.1.1
    have hfnl := HI.out.2.2.1.1
    clear HP HN hpr
    obtain ⟨ib, hib, ib0, ib1, ib2⟩ := info_parts Tryd.infoByte
    have HIB := Hid.mk' hib
    clear hib
    have hOW3 := fun (W3 : World) (h : SO w m W3) => Oc.new (N := w.heap.size) (W := W3) widenB h.1.size (5, 6)
    go_upto_region 4 with fail
    generalize W2.alloc (.cells #[.int .i64 0, .int .i64 0, .int .i64 0] 29) = W3 at *
    clear f0 HF
    have hcv := Lib.run_convert_bytes_const (P := Tryd.prog) W3 46 5 #[.int .u8 119, .int .u8 105, .int .u8 100, .int .u8 101, .int .u8 110] 5 5 Tryd.underlying46 Tryd.underlying5
    have HO : Hid (Oc w.heap.size widenB (.slice (some ⟨W3.heap.size, 0, none⟩) 5 5) (W3.alloc (.cells #[.int .u8 119, .int .u8 105, .int .u8 100, .int .u8 101, .int .u8 110] 5 (5, 6)))) := hOW3 W3 HS.out
    replace HS := Hid.mk' (HS.out.stay (Below.one (Below.refl _ _) (.cells #[.int .u8 119, .int .u8 105, .int .u8 100, .int .u8 101, .int .u8 110] 5 (5, 6))))
    clear hOW3
    go_upto_region 5 with fail
    generalize W3.alloc (.cells #[.int .u8 119, .int .u8 105, .int .u8 100, .int .u8 101, .int .u8 110] 5 (5, 6)) = W4 at *
    clear hcv
    generalize hv5 : Value.slice (some ⟨W3.heap.size, 0, none⟩) 5 5 = v5 at *
    clear hv5
    go_wp2_with fail
    go_loopw [5, 6] (fun t5 t6 wr => ∃ (j : Nat), j ≤ m.ths.length ∧ t6 = .int .i64 j ∧ Oc w.heap.size (widenB ++ (m.ths.take j).flatMap numT) t5 wr ∧ SO w m wr) (fun _ t6 _ => m.ths.length - (intOf t6).toNat)
    case atStart => exact ⟨0, Nat.zero_le _, rfl, by simpa using HO.out, HS.out⟩
    case round =>
      obtain ⟨j, hj, rfl, hoc, hso⟩ := hrel
      clear HO HS
      have x0 := cell_of_obj hso.2.1 (j := 0) (v := .slice m.ta m.ths.length m.tc) rfl
      have hN := hso.1.size
      obtain ⟨acc, hacc⟩ : ∃ acc, widenB ++ (m.ths.take j).flatMap numT = acc := ⟨_, rfl⟩
      rw [hacc] at hoc
      have hal : 0 < acc.length := by rw [← hacc]; simp [widenB]
      have HTL := Hid.mk' (take_le (g := numT) (l := m.ths) (j + 1))
      have hal2 : acc.length ≤ 4000000 := by
        have h1 := HLEN.out
        have h2 := take_le (g := numT) (l := m.ths) j
        rw [← hacc]
        unfold moT lineT at h1
        simp only [List.length_append] at *
        omega
      obtain ⟨va, vc, rfl⟩ := hoc.form
      have HACC := Hid.mk' hacc
      have HOC := Hid.mk' hoc
      have HSO := Hid.mk' hso
      by_cases hlt : j < m.ths.length
      · obtain ⟨b, o, ea, c0⟩ := thr_at (HI.out.1.stay hso.1) hlt
        have hli : (j : Int) < (m.ths.length : Int) := by omega
        have HT := Hid.mk' (flat_take hlt)
        have h64 : I64 m.ths[j] := HI.out.2.1 _ (List.getElem_mem hlt)
        have HFI : Hid (∀ w', SO w m w' → Calls Tryd.prog 16 #[.int .i64 m.ths[j], .int .i64 10] w' fun e w'' => e = .returned (.string (tb (Lib.itoa m.ths[j]))) ∧ Below w'.heap.size w' w'') := fun w' h => format_any _ w' h64 (HE.out.stay h.1)
        rw [ea] at x0
        generalize m.ths[j] = n at *
        obtain ⟨A, hA⟩ : ∃ A, tb (Lib.itoa n) = A := ⟨_, rfl⟩
        have hsA := itoa_sz h64 hA
        rw [hA] at HFI
        obtain ⟨accN, hacN⟩ : ∃ accN, acc ++ numT n = accN := ⟨_, rfl⟩
        have HACN := Hid.mk' hacN
        have HAP : Hid (∀ W', SO w m W' → Oc w.heap.size acc (.slice va acc.length vc) W' → ∃ v' W'', (Builtin.append_ #[46, 9] 46 #[.slice va acc.length vc, .string ((⟨#[32]⟩ : ByteArray) ++ A)]).run Tryd.prog W' = .ok v' W'' ∧ (Ob w.heap.size accN v' W'' ∧ Gr w.heap.size W' W'')) := fun W' h1 h2 => by
          rw [sp_num hA, ← hacN]
          exact oc_app_str h2 (by simp [numT]) hal (by have := numT_len h64; omega) h1.1.size _
        clear hacc hA h64 ea hoc hso hacN
        go_wp2_with (first
          | (go_at_call 16; refine (HFI.out _ HSO.out).mono ?_; rintro e Wn ⟨rfl, hbn⟩; replace HSO := Hid.mk' (HSO.out.stay hbn); replace HOC := Hid.mk' (HOC.out.stay hbn))
          | (at_builtin; refine wpl_app rfl _ _ 46 9 _ _ rfl rfl rfl (HAP.out _ HSO.out HOC.out) ?_; rintro v' W' ⟨ho', hg'⟩; obtain ⟨a1, c1, rfl⟩ := gown_form ho'))
        go_roundw
        case rel => exact ⟨j + 1, by omega, by go_num, .inl (by rw [HT.out, ← List.append_assoc, HACC.out]; exact HACN.out ▸ ho'), HSO.out.grown hg'⟩
        case measure => simp [intOf]; omega
      · have hje : j = m.ths.length := by omega
        have HLA : Hid (acc ++ [10] = lineT widenB m.ths) := (by rw [← hacc, hje, List.take_length]; rfl : _ = _)
        obtain ⟨l0, hl0⟩ : ∃ l0, lineT widenB m.ths = l0 := ⟨_, rfl⟩
        have HL0 := Hid.mk' hl0
        have HAP : Hid (∃ v' W'', (Builtin.append_ #[46, 46] 46 #[.slice va acc.length vc, .slice (some ⟨wr.heap.size, 0, none⟩) 1 1]).run Tryd.prog (wr.alloc (.cells #[.int .u8 10] 5)) = .ok v' W'' ∧ (Ob w.heap.size l0 v' W'' ∧ Gr w.heap.size (wr.alloc (.cells #[.int .u8 10] 5)) W'')) := by
          rw [← hl0, ← HLA.out]
          exact oc_app_one (hoc.stay (Below.one (Below.refl _ _) _)) hal (by omega) (by have := World.size_alloc (w := wr) (o := .cells #[.int .u8 10] 5); omega) _ 10 _ (cell_of_obj (heap_alloc_new wr _) rfl)
        have HSA := Hid.mk' (hso.stay (Below.one (Below.refl _ _) (.cells #[.int .u8 10] 5)))
        clear hacc hoc hso hje HOC HSO HACC HTL hl0
        go_wp2_with (at_builtin; refine wpl_app rfl _ _ 46 46 _ _ rfl rfl rfl HAP.out ?_; rintro v9 W9 ⟨ho9, hg9⟩; obtain ⟨a9, c9, rfl⟩ := gown_form ho9)
        have HO := Hid.mk' (show Oc w.heap.size l0 _ W9 from .inl ho9)
        have HS := Hid.mk' (HSA.out.grown hg9)
        clear ho9 hg9 HAP HSA x0 HLA
        have hl0 : 0 < l0.length := by rw [← HL0.out]; unfold lineT; simp only [List.length_append, List.length_cons, List.length_nil]; omega
        go_loopw [5, 7] (fun t5 t7 wr => ∃ (j : Nat), j ≤ m.funcs.length ∧ t7 = .int .i64 j ∧ Oc w.heap.size (l0 ++ (m.funcs.take j).flatMap fnT) t5 wr ∧ SO w m wr) (fun _ t7 _ => m.funcs.length - (intOf t7).toNat)
        case atStart => exact ⟨0, Nat.zero_le _, rfl, by simpa using HO.out, HS.out⟩
        case round =>
          obtain ⟨j, hj, rfl, hoc, hso⟩ := hrel
          clear HO HS
          obtain ⟨lj, hlj⟩ : ∃ lj, l0 ++ (m.funcs.take j).flatMap fnT = lj := ⟨_, rfl⟩
          rw [hlj] at hoc
          have HLJ := Hid.mk' hlj
          have hljp : 0 < lj.length := by rw [← hlj, List.length_append]; omega
          obtain ⟨va, vc, rfl⟩ := hoc.form
          have x1 := cell_of_obj hso.2.1 (j := 1) (v := .slice m.fa m.funcs.length m.fc) rfl
          by_cases hlt : j < m.funcs.length
          · obtain ⟨rb, o, hfa, k0, k1, k2, k3, k4⟩ := fns_at (HI.out.2.2.1.stay hso.1) hlt
            have hli : (j : Int) < (m.funcs.length : Int) := by omega
            have HT := Hid.mk' (fns_take (g := fnT) hlt)
            have HLE := Hid.mk' (take_le (g := fnT) (l := m.funcs) (j + 1))
            have HFI := Hid.mk' (HI.out.2.2.2 _ (List.getElem_mem hlt))
            have HFP := Hid.mk' (HPR.out.2.2 _ (List.getElem_mem hlt))
            generalize m.funcs[j] = f at *
            rw [hfa] at x1
            have HLF : Hid ((lj ++ fnT f).length ≤ 4000000) := by
              show _ ≤ _
              have h1 := HLE.out
              have h2 := HLEN.out
              rw [HT.out] at h1
              unfold moT at h2
              rw [← HLJ.out, ← HL0.out]
              simp only [List.length_append] at *
              omega
            have hcl := HFI.out.2.2.2.2.2.1.1
            have hpl := HFI.out.2.2.2.1.1
            have HSO := Hid.mk' hso
            have HOC := Hid.mk' hoc
            have hN := hso.1.size
            clear hlj hfa hso hoc
            go_upto_region 14 with fail
            have HBX := Below.one (Below.refl wr.heap.size wr) (.cells (cF f) 42)
            have HSF : Hid (SF w m wr.heap.size f (wr.alloc (.cells (cF f) 42))) := ⟨HSO.out.stay HBX, heap_alloc_new wr _⟩
            replace HOC := Hid.mk' (HOC.out.stay HBX)
            clear HBX HSO k0 k1 k2 k3 k4 x1
            generalize wr.alloc (.cells (cF f) 42) = V at *
            generalize wr.heap.size = F at *
            have y0 : ∀ w', SF w m F f w' → w'.cell? ⟨F, 0, none⟩ = some (.string f.name) := fun w' h => cell_of_obj h.2 rfl
            have y2 : ∀ w', SF w m F f w' → w'.cell? ⟨F, 2, none⟩ = some (.int .i64 f.regs) := fun w' h => cell_of_obj h.2 rfl
            have y3 : ∀ w', SF w m F f w' → w'.cell? ⟨F, 3, none⟩ = some (.int .i64 f.words) := fun w' h => cell_of_obj h.2 rfl
            obtain ⟨A, hA⟩ : ∃ A, tb (Lib.itoa f.regs) = A := ⟨_, rfl⟩
            obtain ⟨B, hB⟩ : ∃ B, tb (Lib.itoa f.words) = B := ⟨_, rfl⟩
            have hsA := itoa_sz HFI.out.2.1 hA
            have hsB := itoa_sz HFI.out.2.2.1 hB
            have hsN := HFP.out.1
            have HIR : Hid (∀ w', SF w m F f w' → Calls Tryd.prog 17 #[.int .i64 f.regs] w' fun e w'' => e = .returned (.string A) ∧ Below w'.heap.size w' w'') := fun w' h => hA ▸ itoa_any _ w' HFI.out.2.1 (HE.out.stay h.1.1)
            have HIW : Hid (∀ w', SF w m F f w' → Calls Tryd.prog 17 #[.int .i64 f.words] w' fun e w'' => e = .returned (.string B) ∧ Below w'.heap.size w' w'') := fun w' h => hB ▸ itoa_any _ w' HFI.out.2.2.1 (HE.out.stay h.1.1)
            obtain ⟨l1, hl1⟩ : ∃ l1, lj ++ ((funcB ++ 32 :: f.name.data.toList) ++ (hdU f 0).flatMap numT) = l1 := ⟨_, rfl⟩
            have HL1 := Hid.mk' hl1
            have hU0 : (hdU f 0).flatMap numT = numT f.regs ++ numT f.words := by simp [hdU]
            have HAP : Hid (∀ W', SF w m F f W' → Oc w.heap.size lj (.slice va lj.length vc) W' → ∃ v' W'', (Builtin.append_ #[46, 9] 46 #[.slice va lj.length vc, .string ((⟨#[102, 117, 110, 99, 32]⟩ : ByteArray) ++ f.name ++ ⟨#[32]⟩ ++ A ++ ⟨#[32]⟩ ++ B)]).run Tryd.prog W' = .ok v' W'' ∧ (Ob w.heap.size l1 v' W'' ∧ Gr w.heap.size W' W'')) := fun W' h1 h2 => by
              rw [hd_text hA hB, ← hU0, ← hl1]
              exact oc_app_str h2 (by simp [funcB]) hljp (by
                have h3 := HLF.out
                have h4 := numT_len HFI.out.2.1
                have h5 := numT_len HFI.out.2.2.1
                have h6 := ba_len f.name
                rw [hU0]
                simp only [List.length_append, List.length_cons, funcB, List.length_nil] at *
                omega) h1.1.1.size _
            have p1 := fun w' => add_func hsN w'
            have n0 : ¬ 9223372036854775807 < 5 + f.name.size := by omega
            have d0 : decide (9223372036854775807 < 5 + f.name.size) = false := decide_eq_false n0
            have n1 : ¬ 9223372036854775807 < 5 + f.name.size + 1 := by omega
            have d1 : decide (9223372036854775807 < 5 + f.name.size + 1) = false := decide_eq_false n1
            have n2 : ¬ 9223372036854775807 < 5 + f.name.size + 1 + A.size := by omega
            have d2 : decide (9223372036854775807 < 5 + f.name.size + 1 + A.size) = false := decide_eq_false n2
            have n3 : ¬ 9223372036854775807 < 5 + f.name.size + 1 + A.size + 1 := by omega
            have d3 : decide (9223372036854775807 < 5 + f.name.size + 1 + A.size + 1) = false := decide_eq_false n3
            have n4 : ¬ 9223372036854775807 < 5 + f.name.size + 1 + A.size + 1 + B.size := by omega
            have d4 : decide (9223372036854775807 < 5 + f.name.size + 1 + A.size + 1 + B.size) = false := decide_eq_false n4
            have hS0 : SF w m F f V.drew := HSF.out.stay (Below.drew (Below.refl _ _))
            replace HOC := Hid.mk' (HOC.out.stay (Below.drew (Below.refl _ V)))
            clear hl1 hU0 HSF
            go_region_held_law (fun w' => SF w m F f w') (first | exact SF.stay (by assumption) (by assumption) | exact SF.grown (by assumption) (by assumption) | assumption)
              (first
                | (go_at_call 17; with_reducible refine (HIR.out _ (by assumption)).mono ?_; rintro e w' ⟨rfl, hb⟩; replace HOC := Hid.mk' (HOC.out.stay hb))
                | (go_at_call 17; with_reducible refine (HIW.out _ (by assumption)).mono ?_; rintro e w' ⟨rfl, hb⟩; replace HOC := Hid.mk' (HOC.out.stay hb))
                | (refine step_app rfl _ _ 46 9 _ _ rfl rfl rfl (HAP.out _ (by assumption) HOC.out) ?_; rintro v' w' ⟨ho', hg'⟩; obtain ⟨a1, c1, rfl⟩ := gown_form ho'))
            clear y0 y2 y3 HIR HIW HAP p1 n0 d0 n1 d1 n2 d2 n3 d3 n4 d4 HOC hb hA hB hsA hsB
            have HSF : Hid (SF w m F f w') := (by assumption : SF w m F f w')
            have HO1 : Hid (Oc w.heap.size l1 (.slice a1 l1.length c1) w') := .inl ho'
            clear ho' hg'
            obtain ⟨Wo, hWo⟩ : ∃ Wo, wr = Wo := ⟨_, rfl⟩
            subst hWo
            have hl1p : 0 < l1.length := by rw [← HL1.out, List.length_append]; omega
            go_wp2_with fail
            go_loopw [5, 9] (fun t5 t9 wr => ∃ (i : Nat), i ≤ f.params.length ∧ t9 = .int .i64 i ∧ Oc w.heap.size (lj ++ ((funcB ++ 32 :: f.name.data.toList) ++ (hdU f i).flatMap numT)) t5 wr ∧ SF w m F f wr) (fun _ t9 _ => f.params.length - (intOf t9).toNat)
            case atStart => exact ⟨0, Nat.zero_le _, rfl, by rw [HL1.out]; exact HO1.out, HSF.out⟩
            case round =>
              obtain ⟨i, hi, rfl, hoc, hsf⟩ := hrel
              clear HO1 HSF
              obtain ⟨li, hli'⟩ : ∃ li, lj ++ ((funcB ++ 32 :: f.name.data.toList) ++ (hdU f i).flatMap numT) = li := ⟨_, rfl⟩
              rw [hli'] at hoc
              have HLI := Hid.mk' hli'
              have hlip : 0 < li.length := by rw [← hli', List.length_append]; omega
              have hlil : li.length ≤ 4000000 := by
                have h1 := HLF.out
                have h2 : ((hdU f i).flatMap numT).length ≤ ((hdN f).flatMap numT).length := by
                  have : hdN f = hdU f i ++ (f.params.drop i).flatMap (fun s => [s.1, s.2]) := by
                    unfold hdN hdU
                    rw [List.cons_append, List.cons_append, ← List.flatMap_append, List.take_append_drop]
                  rw [this, List.flatMap_append, List.length_append]; omega
                unfold fnT lineT at h1
                rw [← hli']
                simp only [List.length_append] at *
                omega
              obtain ⟨va, vc, rfl⟩ := hoc.form
              by_cases hilt : i < f.params.length
              · obtain ⟨pb, po, hpa, c0, c1⟩ := sps_at (HFI.out.2.2.2.1.stay hsf.1.1) hilt
                have hii : (i : Int) < (f.params.length : Int) := by omega
                have HTI := Hid.mk' (hdT_next f hilt)
                have h6 := HFI.out.2.2.2.2.1 _ (List.getElem_mem hilt)
                have hyy : ∀ w', SF w m F f w' → w'.cell? ⟨pb, po + i * 2, none⟩ = some (.int .i64 f.params[i].1) ∧ w'.cell? ⟨pb, po + i * 2 + 1, none⟩ = some (.int .i64 f.params[i].2) := fun w' h => by
                  obtain ⟨b', o', e', q0, q1⟩ := sps_at (HFI.out.2.2.2.1.stay h.1.1) hilt
                  rw [hpa] at e'
                  injection e' with e'
                  injection e' with e1 e2
                  rw [e1, e2]
                  exact ⟨q0, q1⟩
                generalize f.params[i] = s at *
                obtain ⟨s1, s2⟩ := s
                obtain ⟨A, hA⟩ : ∃ A, tb (Lib.itoa s1) = A := ⟨_, rfl⟩
                obtain ⟨B, hB⟩ : ∃ B, tb (Lib.itoa s2) = B := ⟨_, rfl⟩
                have hsA := itoa_sz h6.1 hA
                have hsB := itoa_sz h6.2 hB
                have HIR : Hid (∀ w', SF w m F f w' → Calls Tryd.prog 16 #[.int .i64 s1, .int .i64 10] w' fun e w'' => e = .returned (.string A) ∧ Below w'.heap.size w' w'') := fun w' h => hA ▸ format_any _ w' h6.1 (HE.out.stay h.1.1)
                have HIW : Hid (∀ w', SF w m F f w' → Calls Tryd.prog 16 #[.int .i64 s2, .int .i64 10] w' fun e w'' => e = .returned (.string B) ∧ Below w'.heap.size w' w'') := fun w' h => hB ▸ format_any _ w' h6.2 (HE.out.stay h.1.1)
                have HPS := Hid.mk' (HFI.out.2.2.2.1)
                have y1 : ∀ w', SF w m F f w' → w'.cell? ⟨F, 1, none⟩ = some (.slice (some ⟨pb, po, none⟩) f.params.length f.pc) := fun w' h => hpa ▸ cell_of_obj h.2 rfl
                have y2 : ∀ w', SF w m F f w' → w'.cell? ⟨pb, po + i * 2, none⟩ = some (.int .i64 s1) := fun w' h => (hyy w' h).1
                have y3 : ∀ w', SF w m F f w' → w'.cell? ⟨pb, po + i * 2 + 1, none⟩ = some (.int .i64 s2) := fun w' h => (hyy w' h).2
                obtain ⟨ln, hln⟩ : ∃ ln, li ++ (numT s1 ++ numT s2) = ln := ⟨_, rfl⟩
                have HLN := Hid.mk' hln
                have HAP : Hid (∀ W', SF w m F f W' → Oc w.heap.size li (.slice va li.length vc) W' → ∃ v' W'', (Builtin.append_ #[46, 9] 46 #[.slice va li.length vc, .string ((⟨#[32]⟩ : ByteArray) ++ A ++ ⟨#[32]⟩ ++ B)]).run Tryd.prog W' = .ok v' W'' ∧ (Ob w.heap.size ln v' W'' ∧ Gr w.heap.size W' W'')) := fun W' h1 h2 => by
                  rw [sp_num2 hA hB, ← hln]
                  exact oc_app_str h2 (by simp [numT]) hlip (by
                    have h4 : (numT s1).length ≤ 22 := numT_len h6.1
                    have h5 : (numT s2).length ≤ 22 := numT_len h6.2
                    rw [List.length_append]
                    omega) h1.1.1.size _
                have n0 : ¬ 9223372036854775807 < 1 + A.size := by omega
                have d0 : decide (9223372036854775807 < 1 + A.size) = false := decide_eq_false n0
                have n1 : ¬ 9223372036854775807 < 1 + A.size + 1 := by omega
                have d1 : decide (9223372036854775807 < 1 + A.size + 1) = false := decide_eq_false n1
                have n2 : ¬ 9223372036854775807 < 1 + A.size + 1 + B.size := by omega
                have d2 : decide (9223372036854775807 < 1 + A.size + 1 + B.size) = false := decide_eq_false n2
                have hsf0 : SF w m F f wr.drew := hsf.stay (Below.drew (Below.refl _ _))
                have HOC := Hid.mk' (hoc.stay (Below.drew (Below.refl _ wr)))
                have HSF := Hid.mk' hsf
                have y1r := y1 _ hsf
                clear hln hsf hoc hA hB hpa c0 c1 h6 hli' hyy
                go_upto_region 18 with fail
                go_region_held_law (fun w' => SF w m F f w') (first | exact SF.stay (by assumption) (by assumption) | exact SF.grown (by assumption) (by assumption) | assumption)
                  (first
                    | (go_at_call 16; with_reducible refine (HIR.out _ (by assumption)).mono ?_; rintro e w' ⟨rfl, hb⟩; replace HOC := Hid.mk' (HOC.out.stay hb))
                    | (go_at_call 16; with_reducible refine (HIW.out _ (by assumption)).mono ?_; rintro e w' ⟨rfl, hb⟩; replace HOC := Hid.mk' (HOC.out.stay hb))
                    | (refine step_app rfl _ _ 46 9 _ _ rfl rfl rfl (HAP.out _ (by assumption) HOC.out) ?_; rintro v' w' ⟨ho', hg'⟩; obtain ⟨a2, c2, rfl⟩ := gown_form ho'))
                have HSF : Hid (SF w m F f w') := (by assumption : SF w m F f w')
                clear y1 y2 y3 HIR HIW HAP n0 d0 n1 d1 n2 d2
                go_wp2_with fail
                go_roundw
                case rel => exact ⟨i + 1, by omega, by go_num, .inl (by rw [HTI.out, ← List.append_assoc (funcB ++ 32 :: f.name.data.toList), ← List.append_assoc lj, HLI.out, HLN.out]; exact ho'), HSF.out⟩
                case measure => simp [intOf]; omega
              · have hie : i = f.params.length := by omega
                obtain ⟨lh, hlh⟩ : ∃ lh, lj ++ lineT (funcB ++ 32 :: f.name.data.toList) (hdN f) = lh := ⟨_, rfl⟩
                have HLH := Hid.mk' hlh
                have hlx : li ++ [10] = lh := by rw [← hli', ← hlh, hie, hdU_all]; unfold lineT; simp only [List.append_assoc]
                have HAP : Hid (∃ v' W'', (Builtin.append_ #[46, 46] 46 #[.slice va li.length vc, .slice (some ⟨wr.heap.size, 0, none⟩) 1 1]).run Tryd.prog (wr.alloc (.cells #[.int .u8 10] 5)) = .ok v' W'' ∧ (Ob w.heap.size lh v' W'' ∧ Gr w.heap.size (wr.alloc (.cells #[.int .u8 10] 5)) W'')) := by
                  rw [← hlx]
                  exact oc_app_one (hoc.stay (Below.one (Below.refl _ _) _)) hlip (by omega) (by have := World.size_alloc (w := wr) (o := .cells #[.int .u8 10] 5); have := hsf.1.1.size; omega) _ 10 _ (cell_of_obj (heap_alloc_new wr _) rfl)
                have HSA := Hid.mk' (hsf.stay (Below.one (Below.refl _ _) (.cells #[.int .u8 10] 5)))
                have y1 := cell_of_obj hsf.2 (j := 1) (v := .slice f.pa f.params.length f.pc) rfl
                have hlhp : 0 < lh.length := by rw [← hlx, List.length_append]; omega
                clear hli' hlh hlx hoc hsf hie
                go_wp2_with (at_builtin; refine wpl_app rfl _ _ 46 46 _ _ rfl rfl rfl HAP.out ?_; rintro v9 W9 ⟨ho9, hg9⟩; obtain ⟨a9, c9, rfl⟩ := gown_form ho9)
                have HO9 := Hid.mk' (show Oc w.heap.size lh _ W9 from .inl ho9)
                have HS9 := Hid.mk' (HSA.out.grown hg9)
                clear ho9 hg9 HAP HSA y1 HLI
                have HLC : Hid ((lh ++ f.code.flatMap insT).length ≤ 4000000) := by
                  show _ ≤ _; have := HLF.out; unfold fnT at this; rw [← HLH.out, List.append_assoc]; exact this
                obtain ⟨Wp, hWp⟩ : ∃ Wp, wr = Wp := ⟨_, rfl⟩
                subst hWp
                go_loopw [5, 10] (fun t5 t10 wr => ∃ (i : Nat), i ≤ f.code.length ∧ t10 = .int .i64 i ∧ Oc w.heap.size (lh ++ (f.code.take i).flatMap insT) t5 wr ∧ SF w m F f wr) (fun _ t10 _ => f.code.length - (intOf t10).toNat)
                case atStart => exact ⟨0, Nat.zero_le _, rfl, by simpa using HO9.out, HS9.out⟩
                case round =>
                  obtain ⟨i, hi, rfl, hoc, hsf⟩ := hrel
                  clear HO9 HS9
                  obtain ⟨lx, hlx⟩ : ∃ lx, lh ++ (f.code.take i).flatMap insT = lx := ⟨_, rfl⟩
                  rw [hlx] at hoc
                  have HLX := Hid.mk' hlx
                  have hlxp : 0 < lx.length := by rw [← hlx, List.length_append]; omega
                  have hlxl : lx.length ≤ 4000000 := by
                    have h1 := HLC.out
                    have h2 := take_le (g := insT) (l := f.code) i
                    rw [← hlx]
                    simp only [List.length_append] at *
                    omega
                  obtain ⟨va, vc, rfl⟩ := hoc.form
                  have HSF := Hid.mk' hsf
                  have HOC := Hid.mk' hoc
                  by_cases hilt : i < f.code.length
                  · obtain ⟨cb, co, hca, x0, x1, x2, x3, x4⟩ := iss_at (HFI.out.2.2.2.2.2.1.stay hsf.1.1) hilt
                    have hii : (i : Int) < (f.code.length : Int) := by omega
                    have HTI := Hid.mk' (fns_take (g := insT) hilt)
                    have HXO := Hid.mk' (HFI.out.2.2.2.2.2.2 _ (List.getElem_mem hilt))
                    generalize f.code[i] = x at *
                    have y4 := cell_of_obj hsf.2 (j := 4) (v := .slice f.ca f.code.length f.cc) rfl
                    rw [hca] at y4
                    have HLI : Hid (Calls Tryd.prog 18 #[.agg (cI x)] wr fun e w'' => e = .returned (.string (tb (insT x))) ∧ Below wr.heap.size wr w'') := rline_any x HXO.out wr (HE.out.stay hsf.1.1)
                    obtain ⟨ln, hln⟩ : ∃ ln, lx ++ insT x = ln := ⟨_, rfl⟩
                    have HLN := Hid.mk' hln
                    have HAP : Hid (∀ W', SF w m F f W' → Oc w.heap.size lx (.slice va lx.length vc) W' → ∃ v' W'', (Builtin.append_ #[46, 9] 46 #[.slice va lx.length vc, .string (tb (insT x))]).run Tryd.prog W' = .ok v' W'' ∧ (Ob w.heap.size ln v' W'' ∧ Gr w.heap.size W' W'')) := fun W' h1 h2 => by
                      rw [← hln]
                      exact oc_app_str h2 (by unfold insT lineT; simp only [List.length_append, List.length_cons, List.length_nil]; omega) hlxp (by have := insT_len HXO.out; omega) h1.1.1.size _
                    clear hlx hoc hsf hca hln
                    go_wp2_with (first
                      | (go_at_call 18; refine HLI.out.mono ?_; rintro e Wn ⟨rfl, hbn⟩; replace HSF := Hid.mk' (HSF.out.stay hbn); replace HOC := Hid.mk' (HOC.out.stay hbn))
                      | (at_builtin; refine wpl_app rfl _ _ 46 9 _ _ rfl rfl rfl (HAP.out _ HSF.out HOC.out) ?_; rintro v' W' ⟨ho', hg'⟩; obtain ⟨a1, c1, rfl⟩ := gown_form ho'))
                    go_roundw
                    case rel => exact ⟨i + 1, by omega, by go_num, .inl (by rw [HTI.out, ← List.append_assoc, HLX.out, HLN.out]; exact ho'), HSF.out.grown hg'⟩
                    case measure => simp [intOf]; omega
                  · have hie : i = f.code.length := by omega
                    have HIE := Hid.mk' hie
                    have y4 := cell_of_obj hsf.2 (j := 4) (v := .slice f.ca f.code.length f.cc) rfl
                    clear hie hoc hsf hlx
                    go_wp2_with fail
                    go_roundw
                    case rel =>
                      refine ⟨j + 1, by omega, by go_num, ?_, HSF.out.1⟩
                      have h1 := HLX.out
                      rw [HIE.out, List.take_length, ← HLH.out] at h1
                      rw [HT.out, ← List.append_assoc, HLJ.out]
                      unfold fnT
                      rw [← List.append_assoc, h1]
                      exact HOC.out
                    case measure => simp [intOf]; omega
          · have hje : j = m.funcs.length := by omega
            have HE2 : Hid (lj = moT m) := (by rw [← hlj, hje, List.take_length, ← HL0.out]; rfl : _ = _)
            have htx := oc_text hoc hljp
            have q0 := cell_of_obj hso.2.2 (j := 0) (v := .int .i64 0) rfl
            have q1 := cell_of_obj hso.2.2 (j := 1) (v := .int .i64 0) rfl
            have q2 := cell_of_obj hso.2.2 (j := 2) (v := .int .i64 0) rfl
            have fz := fun j => Lib.frozen_of_heap hso.2.2 j
            have HSO := Hid.mk' hso
            clear hje hoc hlj hso
            go_wp2_with fail
            exact bodyPost_ret (v := .tuple #[.string (tb lj), .agg #[.int .i64 0, .int .i64 0, .int .i64 0]]) (by simp [results, Tryd.results8, go_sem, *]) rfl ⟨by rw [HE2.out], ((HSO.out.1.setCell (by simp only; omega) _).setCell (by simp only; omega) _).setCell (by simp only; omega) _⟩
  · have hq : (z0 != 0) = true := bne_of hz0
    have ht := HN.out hz0
    subst ht
    clear HP HN hz0
    have f1 := cell_of_obj HF.out (j := 1) (v := .int .i64 z1) rfl
    have f2 := cell_of_obj HF.out (j := 2) (v := .int .i64 z2) rfl
    have q0 := cell_of_obj HS.out.2.2 (j := 0) (v := .int .i64 0) rfl
    have q1 := cell_of_obj HS.out.2.2 (j := 1) (v := .int .i64 0) rfl
    have q2 := cell_of_obj HS.out.2.2 (j := 2) (v := .int .i64 0) rfl
    have fz := fun j => Lib.frozen_of_heap HS.out.2.2 j
    have hlt := (Array.getElem?_eq_some_iff.1 HS.out.2.2).1
    clear hs2 HF
    go_wp2_with fail
    generalize W2.alloc (.cells #[.int .i64 z0, .int .i64 z1, .int .i64 z2] 29) = W3 at *
    go_region
    all_goals go_wp2_with fail
    all_goals exact bodyPost_ret (v := .tuple #[.string ⟨#[]⟩, .agg #[.int .i64 z0, .int .i64 z1, .int .i64 z2]]) (by simp [results, Tryd.results8, go_sem, *]) rfl ⟨by simp, (((Below.drew HS.out.1).setCell (by simp only; omega) _).setCell (by simp only; omega) _).setCell (by simp only; omega) _⟩
end Go.Proofs.YtboidkmnkicoeaaDoor

/- AsmPrints. -/
namespace Go.Proofs.YtboidkmnkicoeaaDoor
open Go.RowKit Go.Sort

theorem prnT_same {p q : Mo} (h : p.er = q.er) : prnT p = prnT q := by
  have hm : ∀ m : Mo, moT m.er = moT m := fun m => by
    unfold moT Mo.er
    simp only
    rw [List.flatMap_map]
    rfl
  unfold prnT
  rw [mayZ_same h, ← hm p, h, hm q]
theorem equalIn_fl (a b c a' b' c' : Int) (w : World) : (Op.equalIn 10000 29 (.agg #[.int .i64 a, .int .i64 b, .int .i64 c]) (.agg #[.int .i64 a', .int .i64 b', .int .i64 c'])).run Tryd.prog w = .ok (a == a' && (b == b' && c == c')) w := by
  have u3 := Tryd.underlying3
  have a3 := Tryd.isAgg3
  have z3 := Tryd.sizeOf3
  have u31 := Tryd.underlying27
  have a31 := Tryd.isAgg27
  have z31 := Tryd.sizeOf27
  have hS : Tryd.prog.underlying 29 = some (.struct (Tryd.prog.fieldsOf 29)) := by kernel_rfl
  have hp : Tryd.prog.stoodInHeld 29 = false := by kernel_rfl
  rw [show (10000 : Nat) = 9999 + 1 from rfl, run_equalIn_agg w 9999 29 _ _ hS hp]
  simp only [Program.fieldsOf, Tryd.underlying29]
  go_simp
  by_cases h1 : a = a' <;> by_cases h2 : b = b' <;> by_cases h3 : c = c' <;> simp [h1, h2, h3]
set_option maxRecDepth 100000 in
set_option maxHeartbeats 4000000 in
theorem asmPrints_any (m : Mo) (w : World) (h : Env w) (hm : m.In w) : Calls Tryd.prog 3 #[m.val] w fun e w' => e = .returned (.bool true) ∧ Below w.heap.size w w' := by
  have hb := Below.one (Below.refl _ w) (.cells #[.slice m.ta m.ths.length m.tc, .slice m.fa m.funcs.length m.fc] 25)
  have HC := Hid.mk' (copy_any m (w.alloc (.cells #[.slice m.ta m.ths.length m.tc, .slice m.fa m.funcs.length m.fc] 25)) (hm.stay hb))
  have HF : Hid (∀ w', Below w.heap.size w w' → Calls Tryd.prog 10 #[] w' fun e w'' => e = .returned (.bool true) ∧ Below w'.heap.size w' w'') := fun w' hb => fixed_any w' (h.stay hb)
  have HM : Hid (∀ (q : Mo) w', q.In w' → Below w.heap.size w w' → Calls Tryd.prog 7 #[q.val] w' fun e w'' => e = .returned (.tuple #[.string (tb (prnT q)), fltV (mayZ q)]) ∧ Below w'.heap.size w' w'') := fun q w' hq hb => print_any q w' (h.stay hb) hq
  have HR : Hid (∀ w', Below w.heap.size w w' → Calls Tryd.prog 8 #[m.val] w' fun e w'' => e = .returned (.tuple #[.string (tb (prnT m)), fltV (mayZ m)]) ∧ Below w'.heap.size w' w'') := fun w' hb => rprint_any m w' (h.stay hb) (hm.stay hb)
  have HS : Hid (∀ (q : Mo) w', q.In w' → Below w.heap.size w w' → Calls Tryd.prog 9 #[q.val, m.val] w' fun e w'' => e = .returned (.bool (samM q m)) ∧ Below w'.heap.size w' w'') := fun q w' h hb => rsame_any q m w' h (hm.stay hb)
  have HE : Hid (∀ q : Mo, q.er = m.er → mayZ q = mayZ m ∧ prnT q = prnT m ∧ samM q m = true) := fun q h => ⟨mayZ_same h, prnT_same h, samM_same h⟩
  have HX := Hid.mk' (heap_alloc_new w (.cells #[.slice m.ta m.ths.length m.tc, .slice m.fa m.funcs.length m.fc] 25))
  clear h hm
  generalize mayZ m = z at *
  generalize prnT m = t at *
  obtain ⟨z0, z1, z2⟩ := z
  unfold fltV at HM HR
  unfold Mo.val at *
  have x0 := cell_of_obj HX.out (j := 0) (v := .slice m.ta m.ths.length m.tc) rfl
  have x1 := cell_of_obj HX.out (j := 1) (v := .slice m.fa m.funcs.length m.fc) rfl
  go_enter Tryd.func3, Tryd.ntmps3
  go_wp2_with fail
  refine HC.out.mono ?_
  rintro e W1 ⟨q, rfl, hq, he, hb1⟩
  obtain ⟨hz, ht, hs⟩ := HE.out q he
  have hbq := Below.one hb1 (.cells #[.slice q.ta q.ths.length q.tc, .slice q.fa q.funcs.length q.fc] 25)
  have HB := Hid.mk' (Below.on hb hbq)
  have HQ := Hid.mk' (hq.stay (Below.one (Below.refl _ W1) (.cells #[.slice q.ta q.ths.length q.tc, .slice q.fa q.funcs.length q.fc] 25)))
  have HY := Hid.mk' (heap_alloc_new W1 (.cells #[.slice q.ta q.ths.length q.tc, .slice q.fa q.funcs.length q.fc] 25))
  replace HX := Hid.mk' (blk_stay HX.out hbq)
  have HMq := HM.out q _ HQ.out HB.out
  rw [hz, ht] at HMq
  have HMQ := Hid.mk' HMq
  have HSM := Hid.mk' hs
  have y0 := cell_of_obj HY.out (j := 0) (v := .slice q.ta q.ths.length q.tc) rfl
  have y1 := cell_of_obj HY.out (j := 1) (v := .slice q.fa q.funcs.length q.fc) rfl
  clear HMq HC HM HE hq hb1 hbq hb he hz ht hs x0 x1
  go_wp2_with fail
  generalize hG : W1.heap.size = G at *
  generalize W1.alloc (.cells #[.slice q.ta q.ths.length q.tc, .slice q.fa q.funcs.length q.fc] 25) = W2 at *
  clear hG
  generalize hT : tb t = T at *
  clear hT
  refine HMQ.out.mono ?_
  rintro e W3 ⟨rfl, hb2⟩
  have hb3 := Below.one hb2 (.cells #[.int .i64 z0, .int .i64 z1, .int .i64 z2] 29)
  have HF1 := Hid.mk' (heap_alloc_new W3 (.cells #[.int .i64 z0, .int .i64 z1, .int .i64 z2] 29))
  replace HX := Hid.mk' (blk_stay HX.out hb3)
  replace HY := Hid.mk' (blk_stay HY.out hb3)
  replace HB := Hid.mk' (Below.on HB.out hb3)
  replace HQ := Hid.mk' (HQ.out.stay hb3)
  have HRR := Hid.mk' (HR.out _ HB.out)
  have x0 := cell_of_obj HX.out (j := 0) (v := .slice m.ta m.ths.length m.tc) rfl
  have x1 := cell_of_obj HX.out (j := 1) (v := .slice m.fa m.funcs.length m.fc) rfl
  clear y0 y1 hb2 hb3 HMQ HR
  go_wp2_with fail
  generalize hG2 : W3.heap.size = G2 at *
  generalize W3.alloc (.cells #[.int .i64 z0, .int .i64 z1, .int .i64 z2] 29) = W4 at *
  clear hG2
  refine HRR.out.mono ?_
  rintro e W5 ⟨rfl, hb4⟩
  have hb5 := Below.one hb4 (.cells #[.int .i64 z0, .int .i64 z1, .int .i64 z2] 29)
  have HF2 := Hid.mk' (heap_alloc_new W5 (.cells #[.int .i64 z0, .int .i64 z1, .int .i64 z2] 29))
  replace HX := Hid.mk' (blk_stay HX.out hb5)
  replace HY := Hid.mk' (blk_stay HY.out hb5)
  replace HF1 := Hid.mk' (blk_stay HF1.out hb5)
  replace HB := Hid.mk' (Below.on HB.out hb5)
  have HSQ := HS.out q _ (HQ.out.stay hb5) HB.out
  rw [HSM.out] at HSQ
  replace HSQ := Hid.mk' HSQ
  replace x0 := cell_of_obj HX.out (j := 0) (v := .slice m.ta m.ths.length m.tc) rfl
  replace x1 := cell_of_obj HX.out (j := 1) (v := .slice m.fa m.funcs.length m.fc) rfl
  have y0 := cell_of_obj HY.out (j := 0) (v := .slice q.ta q.ths.length q.tc) rfl
  have y1 := cell_of_obj HY.out (j := 1) (v := .slice q.fa q.funcs.length q.fc) rfl
  clear hb4 hb5 HRR HS HQ
  go_wp2_with fail
  generalize hG3 : W5.heap.size = G3 at *
  generalize W5.alloc (.cells #[.int .i64 z0, .int .i64 z1, .int .i64 z2] 29) = W6 at *
  clear hG3
  refine HSQ.out.mono ?_
  rintro e W7 ⟨rfl, hb6⟩
  replace HB := Hid.mk' (Below.on HB.out hb6)
  replace HF1 := Hid.mk' (blk_stay HF1.out hb6)
  replace HF2 := Hid.mk' (blk_stay HF2.out hb6)
  have HFX := Hid.mk' (HF.out _ HB.out)
  clear x0 x1 y0 y1 hb6 HSQ HF HX HY
  go_wp2_with fail
  refine HFX.out.mono ?_
  rintro e W8 ⟨rfl, hb7⟩
  replace HB := Hid.mk' (Below.on HB.out hb7)
  replace HF1 := Hid.mk' (blk_stay HF1.out hb7)
  replace HF2 := Hid.mk' (blk_stay HF2.out hb7)
  have a0 := cell_of_obj HF1.out (j := 0) (v := .int .i64 z0) rfl
  have a1 := cell_of_obj HF1.out (j := 1) (v := .int .i64 z1) rfl
  have a2 := cell_of_obj HF1.out (j := 2) (v := .int .i64 z2) rfl
  have b0 := cell_of_obj HF2.out (j := 0) (v := .int .i64 z0) rfl
  have b1 := cell_of_obj HF2.out (j := 1) (v := .int .i64 z1) rfl
  have b2 := cell_of_obj HF2.out (j := 2) (v := .int .i64 z2) rfl
  have hg := eqGuard_f
  have hq2 : ∀ w, (Op.equalIn 10000 29 (.agg #[.int .i64 z0, .int .i64 z1, .int .i64 z2]) (.agg #[.int .i64 z0, .int .i64 z1, .int .i64 z2])).run Tryd.prog w = .ok true w := fun w => by rw [equalIn_fl]; simp
  clear hb7 HFX HF1 HF2
  have hu : undef = Value.tuple #[] := rfl
  go_wp2_with fail
  go_ret
  exact ⟨rfl, HB.out⟩
end Go.Proofs.YtboidkmnkicoeaaDoor
