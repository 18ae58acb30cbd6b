/- asm.textOf, walked. -/
import Derived.Test.YtboidkmnkicoeaaGreatDoorKc
import Derived.Test.YtboidkmnkicoeaaGreatDoorJf
namespace Go.Proofs.YtboidkmnkicoeaaGreatDoor
open Go.RowKit Go.Sort

abbrev cM (m : Mo) : Array Value := #[.slice m.ta m.ths.length m.tc, .slice m.fa m.funcs.length m.fc]
abbrev cF (f : Fn) : Array Value := #[.string f.name, .slice f.pa f.params.length f.pc, .int .i64 f.regs, .int .i64 f.words, .slice f.ca f.code.length f.cc]
abbrev cI (x : Is) : Array Value := #[.int .i64 x.op, .int .i64 x.a, .int .i64 x.b, .int .i64 x.c, .int .i64 x.n]
theorem pg_new (w : World) (o : Obj) : PgT w.heap.size (w.heap.size + 1) [] ((w.alloc o).alloc (.cells #[.pointer none, .slice none 0 0] 100)) := by
  refine .inl ⟨by omega, .slice none 0 0, ?_, World.ownsRow_nil _ _ _ _, by simp [Value.ownBlock], fun _ => rfl⟩
  have := heap_alloc_new (w.alloc o) (.cells #[.pointer none, .slice none 0 0] 100)
  rwa [World.size_alloc] at this
theorem fname_eq (s : ByteArray) : (⟨#[102, 117, 110, 99, 32]⟩ : ByteArray) ++ s = tb (funcB ++ 32 :: s.data.toList) := by
  apply ByteArray.ext; simp [funcB]
theorem pg_lt {B b : Nat} {bs : List Value} {w : World} (h : Pg B b bs w) : b < w.heap.size := by
  obtain ⟨p, h⟩ := h.some; exact h.lt
theorem add_func {s : ByteArray} (h : s.size ≤ 16) (w : World) : (Op.stringOp .add (⟨#[102, 117, 110, 99, 32]⟩ : ByteArray) s).run Tryz.prog w = .ok (.string ((⟨#[102, 117, 110, 99, 32]⟩ : ByteArray) ++ s)) w :=
  run_string_add_sum w _ _ (by show 5 + s.size ≤ _; omega)
set_option maxRecDepth 100000 in
set_option maxHeartbeats 4000000 in
theorem textOf_any (m : Mo) (w : World) (h : Env w) (hm : m.In w) (hp : PrOk m) : Calls Tryz.prog 36 #[m.val] w fun e w' => e = .returned (.string (tb (moT m))) ∧ Below w.heap.size w w' := by
  have hb2 := Below.one (Below.one (Below.refl _ w) (.cells (cM m) 25)) (.cells #[.pointer none, .slice none 0 0] 100)
  have HP0 := Hid.mk' (pg_new w (.cells (cM m) 25))
  have HLEN := Hid.mk' (moT_len hm hp)
  have HM := Hid.mk' hm
  have HPR := Hid.mk' hp
  have HENV := Hid.mk' h
  have hfl := hm.2.2.1.1
  have c1 := cell_kept_below (cell_of_obj (heap_alloc_new w (.cells (cM m) 25)) (j := 1) (v := .slice m.fa m.funcs.length m.fc) rfl) (Below.one (Below.refl _ _) (.cells #[.pointer none, .slice none 0 0] 100))
  have HBK : Hid (((w.alloc (.cells (cM m) 25)).alloc (.cells #[.pointer none, .slice none 0 0] 100)).heap[w.heap.size]? = some (.cells (cM m) 25)) := ((Below.heap_alloc _ _ _ (by simp)).trans (heap_alloc_new _ _) : _ = _)
  have HL0 := Hid.mk' (lineOf_any widenB m.ta m.tc m.ths _ (h.stay hb2) (hm.1.stay hb2) hm.2.1 (by have := hp.1; omega) (by decide))
  clear h hm hp
  unfold Mo.val
  go_enter Tryz.func36, Tryz.ntmps36
  go_wp2_with fail
  generalize (w.alloc (.cells (cM m) 25)).alloc (.cells #[.pointer none, .slice none 0 0] 100) = W0 at *
  refine HL0.out.mono ?_
  rintro e w1 ⟨rfl, hb1⟩
  have HW1 := Hid.mk' (write_in (t := lineT widenB m.ths) HP0.out hb1 (by have := hb2.size; omega) (by have := HLEN.out; unfold moT at this; rw [List.length_append] at this; rw [List.nil_append]; omega))
  have HB2 := Hid.mk' hb2
  have hs0 : w.heap.size + 1 < W0.heap.size := pg_lt HP0.out
  have hbk := (Array.getElem?_eq_some_iff.1 (show W0.heap[w.heap.size]? = some _ from HBK.out)).1
  go_wp2_with fail
  refine HW1.out.mono ?_
  rintro e w2 ⟨rfl, hp2, hbw2, ho2⟩
  have c2 : w2.cell? ⟨w.heap.size, 1, none⟩ = some (.slice m.fa m.funcs.length m.fc) := oth_cell HBK.out (by decide) (by omega) ho2 rfl
  have HB3 : Hid (Below w.heap.size w w2) := HB2.out.trans hbw2.out
  clear c1 HW1 HL0 hb1 ho2 hbw2 hb2 hbk
  go_wp2_with fail
  go_loopw [15] (fun t15 wr => ∃ (j : Nat), j ≤ m.funcs.length ∧ t15 = .int .i64 j ∧ Hid (PgT w.heap.size (w.heap.size + 1) (lineT widenB m.ths ++ (m.funcs.take j).flatMap fnT) wr) ∧ Below w.heap.size w wr) (fun t15 _ => m.funcs.length - (intOf t15).toNat)
  case atStart => exact ⟨0, Nat.zero_le _, rfl, by simpa using hp2, HB3.out⟩
  case round =>
    obtain ⟨j, hj, rfl, hpj, hbj⟩ := hrel
    clear hp2 c2
    by_cases hlt : j < m.funcs.length
    · obtain ⟨rb, o, hfa, k0, k1, k2, k3, k4⟩ := fns_at (HM.out.2.2.1.stay hbj) hlt
      have hli : (j : Int) < (m.funcs.length : Int) := by omega
      have HT := Hid.mk' (fns_take (g := fnT) hlt)
      have HLE := Hid.mk' (take_le (g := fnT) (l := m.funcs) (j + 1))
      have HFI := Hid.mk' (HM.out.2.2.2 _ (List.getElem_mem hlt))
      have HFP := Hid.mk' (HPR.out.2.2 _ (List.getElem_mem hlt))
      generalize m.funcs[j] = f at *
      rw [hfa]
      have HFA := Hid.mk' hfa
      clear hfa
      obtain ⟨lj, hlj⟩ : ∃ lj, lineT widenB m.ths ++ (m.funcs.take j).flatMap fnT = lj := ⟨_, rfl⟩
      rw [hlj] at hpj
      have HLJ := Hid.mk' hlj
      clear hlj
      have HLF : Hid ((lj ++ fnT f).length ≤ 4000000) := by
        show _ ≤ _
        have h1 := HLE.out
        have h2 := HLEN.out
        rw [HT.out] at h1
        unfold moT at h2
        rw [← HLJ.out]
        simp only [List.length_append] at *
        omega
      have hcl := HFI.out.2.2.2.2.2.1.1
      go_wp2_with fail
      obtain ⟨V, hV⟩ : ∃ V, wr.alloc (.cells (cF f) 34) = V := ⟨_, rfl⟩
      have hbx : Below wr.heap.size wr V := by rw [← hV]; exact Below.one (Below.refl _ wr) _
      have hbk : V.heap[wr.heap.size]? = some (.cells (cF f) 34) := by rw [← hV]; exact heap_alloc_new wr _
      rw [hV]
      have hlt1 := pg_lt hpj.out
      have hne : wr.heap.size ≠ w.heap.size + 1 := by omega
      have HBV : Hid (Below w.heap.size w V) := Below.on hbj hbx
      have HPV : Hid (PgT w.heap.size (w.heap.size + 1) lj V) := hpj.out.stay hbx
      have hsv : w.heap.size ≤ V.heap.size := HBV.out.size
      have y0 : ∀ w', Oth (w.heap.size + 1) V w' → w'.cell? ⟨wr.heap.size, 0, none⟩ = some (.string f.name) := fun w' ho => oth_cell hbk (by decide) hne ho rfl
      have y1 : ∀ w', Oth (w.heap.size + 1) V w' → w'.cell? ⟨wr.heap.size, 1, none⟩ = some (.slice f.pa f.params.length f.pc) := fun w' ho => oth_cell hbk (by decide) hne ho rfl
      have y2 : ∀ w', Oth (w.heap.size + 1) V w' → w'.cell? ⟨wr.heap.size, 2, none⟩ = some (.int .i64 f.regs) := fun w' ho => oth_cell hbk (by decide) hne ho rfl
      have y3 : ∀ w', Oth (w.heap.size + 1) V w' → w'.cell? ⟨wr.heap.size, 3, none⟩ = some (.int .i64 f.words) := fun w' ho => oth_cell hbk (by decide) hne ho rfl
      have y4 : ∀ w', Oth (w.heap.size + 1) V w' → w'.cell? ⟨wr.heap.size, 4, none⟩ = some (.slice f.ca f.code.length f.cc) := fun w' ho => oth_cell hbk (by decide) hne ho rfl
      have HY4 := Hid.mk' y4
      have hdrew : Below V.heap.size V V.drew := Below.drew (Below.refl _ _)
      have HH : Hid (∀ w', Below V.heap.size V w' → Calls Tryz.prog 51 #[.agg (cF f)] w' fun e w'' => ∃ va vc, e = .returned (.slice va (hdN f).length vc) ∧ Hid (Thr w'' va (hdN f)) ∧ Below w'.heap.size w' w'') := fun w' hb => headNumbers_any f w' (HFI.out.stay (Below.on HBV.out hb)) (by have := HFP.out.2.1; omega)
      have HLI : Hid (∀ va vc w', Thr w' va (hdN f) → Below V.heap.size V w' → Calls Tryz.prog 50 #[.string ((⟨#[102, 117, 110, 99, 32]⟩ : ByteArray) ++ f.name), .slice va (hdN f).length vc] w' fun e w'' => e = .returned (.string (tb (lineT (funcB ++ 32 :: f.name.data.toList) (hdN f)))) ∧ Below w'.heap.size w' w'') := fun va vc w' ht hb => by
        rw [fname_eq]
        exact lineOf_any _ va vc (hdN f) w' (HENV.out.stay (Below.on HBV.out hb)) ht (hdN_ok HFI.out) (by have := hdN_len HFP.out.2.1; omega) (by rw [List.length_append, List.length_cons, ba_len]; have := HFP.out.1; simp [funcB]; omega)
      have HL1 : Hid ((lj ++ lineT (funcB ++ 32 :: f.name.data.toList) (hdN f)).length ≤ 140737488355328) := by
        show _ ≤ _; have := HLF.out; unfold fnT at this; simp only [List.length_append] at *; omega
      have hfs := HFP.out.1
      have hadd := fun w' => add_func hfs w'
      have hcnd : decide (9223372036854775807 < 5 + f.name.size) = false := decide_eq_false (by omega)
      have hcnd2 : ¬ 9223372036854775807 < 5 + f.name.size := by omega
      clear hV hbx k0 k1 k2 k3 k4 hpj
      go_region_held3 (fun w' => Oth (w.heap.size + 1) V w') (first | exact oth_below (by assumption) | exact Lib.OthersKept.trans (by assumption) (oth_below (by assumption)) | exact Lib.OthersKept.alloc (by assumption) _ | assumption)
        (first
          | (go_at_call 51; refine (HH.out _ (by assumption)).mono ?_; rintro e w' ⟨va, vc, rfl, hth, hb⟩; have hB : Below V.heap.size V w' := Below.on (by assumption) hb)
          | (go_at_call 50; refine (HLI.out _ _ _ hth.out (by assumption)).mono ?_; rintro e w' ⟨rfl, hb⟩; have hB : Below V.heap.size V w' := Below.on (by assumption) hb)
          | (go_at_call 49; refine (write_in HPV.out (by assumption) hsv HL1.out).mono ?_; rintro e w' ⟨rfl, hpl, hbl, hol⟩))
      have z4 := HY4.out _ hol
      have hsw := hbl.out.size
      have HBL : Hid (Below w.heap.size w w') := HBV.out.trans hbl.out
      obtain ⟨lh, hlh⟩ : ∃ lh, lj ++ lineT (funcB ++ 32 :: f.name.data.toList) (hdN f) = lh := ⟨_, rfl⟩
      rw [hlh] at hpl
      have HLH := Hid.mk' hlh
      have HLC : Hid ((lh ++ f.code.flatMap insT).length ≤ 4000000) := by
        show _ ≤ _; have := HLF.out; unfold fnT at this; rw [← HLH.out, List.append_assoc]; exact this
      clear y0 y1 y2 y3 y4 HH HLI HL1 hadd hcnd hcnd2 HPV hdrew hbk hth hb hB hol hlh hne hfs
      obtain ⟨Wo, hWo⟩ : ∃ Wo, wr = Wo := ⟨_, rfl⟩
      subst hWo
      go_wp2_with fail
      go_loopw [29] (fun t29 wr => ∃ (i : Nat), i ≤ f.code.length ∧ t29 = .int .i64 i ∧ Hid (PgT w.heap.size (w.heap.size + 1) (lh ++ (f.code.take i).flatMap insT) wr) ∧ Below w.heap.size w wr) (fun t29 _ => f.code.length - (intOf t29).toNat)
      case atStart => exact ⟨0, Nat.zero_le _, rfl, by simpa using hpl, HBL.out⟩
      case round =>
        obtain ⟨i, hi, rfl, hpi, hbi⟩ := hrel
        clear hpl
        by_cases hilt : i < f.code.length
        · obtain ⟨cb, co, hca, x0, x1, x2, x3, x4⟩ := iss_at (HFI.out.2.2.2.2.2.1.stay hbi) hilt
          have hii : (i : Int) < (f.code.length : Int) := by omega
          have HTI := Hid.mk' (fns_take (g := insT) hilt)
          have HLEI := Hid.mk' (take_le (g := insT) (l := f.code) (i + 1))
          have HXO := Hid.mk' (HFI.out.2.2.2.2.2.2 _ (List.getElem_mem hilt))
          have HXP := Hid.mk' (HFP.out.2.2.2 _ (List.getElem_mem hilt))
          generalize f.code[i] = x at *
          rw [hca]
          have HCA := Hid.mk' hca
          clear hca
          obtain ⟨li, hli'⟩ : ∃ li, lh ++ (f.code.take i).flatMap insT = li := ⟨_, rfl⟩
          rw [hli'] at hpi
          have HLI := Hid.mk' hli'
          clear hli'
          have HLX : Hid ((li ++ insT x).length ≤ 140737488355328) := by
            show _ ≤ _
            have h1 := HLEI.out
            have h2 := HLC.out
            rw [HTI.out] at h1
            rw [← HLI.out]
            simp only [List.length_append] at *
            omega
          go_wp2_with fail
          obtain ⟨V2, hV2⟩ : ∃ V2, wr.alloc (.cells (cI x) 36) = V2 := ⟨_, rfl⟩
          have hbx2 : Below wr.heap.size wr V2 := by rw [← hV2]; exact Below.one (Below.refl _ wr) _
          have hbk2 : V2.heap[wr.heap.size]? = some (.cells (cI x) 36) := by rw [← hV2]; exact heap_alloc_new wr _
          rw [hV2]
          have hlt2 := pg_lt hpi.out
          have hne2 : wr.heap.size ≠ w.heap.size + 1 := by omega
          have HBV2 : Hid (Below w.heap.size w V2) := Below.on hbi hbx2
          have HPV2 : Hid (PgT w.heap.size (w.heap.size + 1) li V2) := hpi.out.stay hbx2
          have hsv2 : w.heap.size ≤ V2.heap.size := HBV2.out.size
          have y0 : ∀ w', Oth (w.heap.size + 1) V2 w' → w'.cell? ⟨wr.heap.size, 0, none⟩ = some (.int .i64 x.op) := fun w' ho => oth_cell hbk2 (by decide) hne2 ho rfl
          have y1 : ∀ w', Oth (w.heap.size + 1) V2 w' → w'.cell? ⟨wr.heap.size, 1, none⟩ = some (.int .i64 x.a) := fun w' ho => oth_cell hbk2 (by decide) hne2 ho rfl
          have y2 : ∀ w', Oth (w.heap.size + 1) V2 w' → w'.cell? ⟨wr.heap.size, 2, none⟩ = some (.int .i64 x.b) := fun w' ho => oth_cell hbk2 (by decide) hne2 ho rfl
          have y3 : ∀ w', Oth (w.heap.size + 1) V2 w' → w'.cell? ⟨wr.heap.size, 3, none⟩ = some (.int .i64 x.c) := fun w' ho => oth_cell hbk2 (by decide) hne2 ho rfl
          have y4 : ∀ w', Oth (w.heap.size + 1) V2 w' → w'.cell? ⟨wr.heap.size, 4, none⟩ = some (.int .i64 x.n) := fun w' ho => oth_cell hbk2 (by decide) hne2 ho rfl
          have hdrew : Below V2.heap.size V2 V2.drew := Below.drew (Below.refl _ _)
          have HWD : Hid (∀ w', Below V2.heap.size V2 w' → Calls Tryz.prog 39 #[.int .i64 x.op] w' fun e w'' => e = .returned (.string (rwOf x.op).word) ∧ Below w'.heap.size w' w'') := fun w' hb => word_of x.op w' (HENV.out.stay (Below.on HBV2.out hb)).tab
          have HNB : Hid (∀ w', Below V2.heap.size V2 w' → Calls Tryz.prog 52 #[.agg (cI x)] w' fun e w'' => ∃ va vc, e = .returned (.slice va (insL x).length vc) ∧ Hid (Thr w'' va (insL x)) ∧ Below w'.heap.size w' w'') := fun w' hb => numbersOf_any x x.op.toNat (by have := HXP.out; omega) (by have := HXP.out; omega) w' (HENV.out.stay (Below.on HBV2.out hb))
          have HLN : Hid (∀ va vc w', Thr w' va (insL x) → Below V2.heap.size V2 w' → Calls Tryz.prog 50 #[.string (rwOf x.op).word, .slice va (insL x).length vc] w' fun e w'' => e = .returned (.string (tb (insT x))) ∧ Below w'.heap.size w' w'') := fun va vc w' ht hb => by
            have := lineOf_any (rwOf x.op).word.data.toList va vc (insL x) w' (HENV.out.stay (Below.on HBV2.out hb)) ht (insL_ok HXO.out) (by have := insL_len x; omega) (by have := word_len x.op; omega)
            rwa [tb_of] at this
          clear hV2 hbx2 x0 x1 x2 x3 x4 hpi
          go_region_held3 (fun w' => Oth (w.heap.size + 1) V2 w') (first | exact oth_below (by assumption) | exact Lib.OthersKept.trans (by assumption) (oth_below (by assumption)) | exact Lib.OthersKept.alloc (by assumption) _ | assumption)
            (first
              | (go_at_call 39; refine (HWD.out _ (by assumption)).mono ?_; rintro e w' ⟨rfl, hb⟩; have hB : Below V2.heap.size V2 w' := Below.on (by assumption) hb)
              | (go_at_call 52; refine (HNB.out _ (by assumption)).mono ?_; rintro e w' ⟨va, vc, rfl, hth, hb⟩; have hB : Below V2.heap.size V2 w' := Below.on (by assumption) hb)
              | (go_at_call 50; refine (HLN.out _ _ _ hth.out (by assumption)).mono ?_; rintro e w' ⟨rfl, hb⟩; have hB : Below V2.heap.size V2 w' := Below.on (by assumption) hb)
              | (go_at_call 49; refine (write_in HPV2.out (by assumption) hsv2 HLX.out).mono ?_; rintro e w' ⟨rfl, hpl, hbl2, hol⟩))
          have HBR : Hid (Below w.heap.size w w') := HBV2.out.trans hbl2.out
          clear y0 y1 y2 y3 y4 HWD HNB HLN hdrew hol hB hb hth
          go_wp2_with fail
          go_roundw
          case rel => exact ⟨i + 1, by omega, by go_num, by rw [HTI.out, ← List.append_assoc, HLI.out]; exact hpl, HBR.out⟩
          case measure => simp [intOf]; omega
        · have hie : i = f.code.length := by omega
          have HIE := Hid.mk' hie
          clear hie
          go_wp2_with fail
          go_roundw
          case rel =>
            refine ⟨j + 1, by omega, by go_num, ?_, hbi⟩
            rw [HIE.out, List.take_length, ← HLH.out] at hpi
            rw [HT.out, ← List.append_assoc, HLJ.out]
            unfold fnT
            rw [← List.append_assoc]
            exact hpi
          case measure => simp [intOf]; omega
    · have hje : j = m.funcs.length := by omega
      have HE : Hid (lineT widenB m.ths ++ (m.funcs.take j).flatMap fnT = moT m) := (by rw [hje, List.take_length]; rfl : _ = _)
      have HST := Hid.mk' (string_any _ _ _ _ hpj.out)
      clear hje hpj
      go_wp2_with fail
      refine HST.out.mono ?_
      rintro e w3 ⟨rfl, hb3⟩
      go_wp2_with fail
      go_ret
      exact ⟨retS (by rw [HE.out]), hbj.trans hb3⟩
end Go.Proofs.YtboidkmnkicoeaaGreatDoor

/- asm.Print. -/
namespace Go.Proofs.YtboidkmnkicoeaaGreatDoor
open Go.RowKit Go.Sort

/-- What Print answers. -/
def prnT (m : Mo) : Bt := if (mayZ m).1 = 0 then moT m else []
def prnV (m : Mo) : Value := .tuple #[.string (tb (prnT m)), fltV (mayZ m)]
set_option maxRecDepth 100000 in
set_option maxHeartbeats 2000000 in
theorem print_any (m : Mo) (w : World) (h : Env w) (hm : m.In w) : Calls Tryz.prog 22 #[m.val] w fun e w' => e = .returned (prnV m) ∧ Below w.heap.size w w' := by
  have hb2 := Below.one (Below.one (Below.refl _ w) (.cells (cM m) 25)) (.cells #[.int .i64 0, .int .i64 0, .int .i64 0] 68)
  have HM := Hid.mk' (may_any m _ (h.stay hb2).tab (hm.stay hb2))
  have HT : Hid ((mayZ m).1 = 0 → ∀ w', Below w.heap.size w w' → Calls Tryz.prog 36 #[m.val] w' fun e w'' => e = .returned (.string (tb (moT m))) ∧ Below w'.heap.size w' w'') := fun hz w' hb => textOf_any m w' (h.stay hb) (hm.stay hb) (may_pr hz)
  have HZ := Hid.mk' (fun hz => may_zero (m := m) hz)
  have HB2 := Hid.mk' hb2
  have x0 : ∀ j v, (cM m)[j]? = some v → ((w.alloc (.cells (cM m) 25)).alloc (.cells #[.int .i64 0, .int .i64 0, .int .i64 0] 68)).cell? ⟨w.heap.size, j, none⟩ = some v := fun j v hv => cell_kept_below (cell_of_obj (heap_alloc_new w (.cells (cM m) 25)) hv) (Below.one (Below.refl _ _) _)
  have c0 := x0 0 _ rfl
  have c1 := x0 1 _ rfl
  have bF : ((w.alloc (.cells (cM m) 25)).alloc (.cells #[.int .i64 0, .int .i64 0, .int .i64 0] 68)).heap[w.heap.size + 1]? = some (.cells #[.int .i64 0, .int .i64 0, .int .i64 0] 68) := by
    have := heap_alloc_new (w.alloc (.cells (cM m) 25)) (.cells #[.int .i64 0, .int .i64 0, .int .i64 0] 68)
    rwa [World.size_alloc] at this
  have HF := Hid.mk' bF
  unfold prnV prnT
  clear h hm x0 hb2 bF
  generalize mayZ m = z at *
  obtain ⟨z0, z1, z2⟩ := z
  unfold fltV at *
  unfold Mo.val at *
  go_enter Tryz.func22, Tryz.ntmps22
  go_wp2_with fail
  generalize (w.alloc (.cells (cM m) 25)).alloc (.cells #[.int .i64 0, .int .i64 0, .int .i64 0] 68) = W at *
  refine HM.out.mono ?_
  rintro e w1 ⟨rfl, hb1⟩
  have hb3 := Below.one hb1 (.cells #[.int .i64 z0, .int .i64 z1, .int .i64 z2] 68)
  replace c0 := cell_kept_below c0 hb3
  replace c1 := cell_kept_below c1 hb3
  have HF1 : Hid ((w1.alloc (.cells #[.int .i64 z0, .int .i64 z1, .int .i64 z2] 68)).heap[w.heap.size + 1]? = some (.cells #[.int .i64 0, .int .i64 0, .int .i64 0] 68)) := ((hb3.block _ (Array.getElem?_eq_some_iff.1 HF.out).1).trans HF.out : _ = _)
  have HB3 := Hid.mk' (Below.on HB2.out hb3)
  have hlt := (Array.getElem?_eq_some_iff.1 HF.out).1
  have hs1 := hb1.size
  clear hb1 hb3 HM
  by_cases hz : z0 = 0
  · have hz' := HZ.out hz
    simp only [Prod.mk.injEq] at hz'
    obtain ⟨rfl, rfl, rfl⟩ := hz'
    have HTT := Hid.mk' (HT.out rfl _ HB3.out)
    clear hz HZ HT
    go_wp2_with fail
    refine HTT.out.mono ?_
    rintro e w2 ⟨rfl, hb2⟩
    have f2 : w2.heap[w.heap.size + 1]? = _ := (hb2.block _ (Array.getElem?_eq_some_iff.1 HF1.out).1).trans HF1.out
    have q0 := cell_of_obj f2 (j := 0) (v := .int .i64 0) rfl
    have q1 := cell_of_obj f2 (j := 1) (v := .int .i64 0) rfl
    have q2 := cell_of_obj f2 (j := 2) (v := .int .i64 0) rfl
    have fz := fun j => Lib.frozen_of_heap f2 j
    go_wp2_with fail
    have hB := Below.on HB3.out hb2
    exact bodyPost_ret (v := .tuple #[.string (tb (moT m)), .agg #[.int .i64 0, .int .i64 0, .int .i64 0]]) (by simp [results, Tryz.results22, go_sem, *]) rfl ⟨rfl, ((hB.setCell (by simp only; omega) _).setCell (by simp only; omega) _).setCell (by simp only; omega) _⟩
  · have hq : (z0 != 0) = true := bne_of hz
    have q0 := cell_of_obj HF1.out (j := 0) (v := .int .i64 0) rfl
    have q1 := cell_of_obj HF1.out (j := 1) (v := .int .i64 0) rfl
    have q2 := cell_of_obj HF1.out (j := 2) (v := .int .i64 0) rfl
    have fz := fun j => Lib.frozen_of_heap HF1.out j
    have hz2 : ¬ z0 = 0 := hz
    clear hz HZ HT
    go_wp2_with fail
    go_region
    all_goals go_wp2_with fail
    all_goals exact bodyPost_ret (v := .tuple #[.string ⟨#[]⟩, .agg #[.int .i64 z0, .int .i64 z1, .int .i64 z2]]) (by simp [results, Tryz.results22, go_sem, *]) rfl ⟨by simp, (((Below.drew HB3.out).setCell (by simp only; omega) _).setCell (by simp only; omega) _).setCell (by simp only; omega) _⟩
end Go.Proofs.YtboidkmnkicoeaaGreatDoor
