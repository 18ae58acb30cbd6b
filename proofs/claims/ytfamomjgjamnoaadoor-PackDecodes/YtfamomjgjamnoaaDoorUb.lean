/- The document's own Encode. -/
import Derived.Test.YtfamomjgjamnoaaDoorUa
namespace Go.Proofs.YtfamomjgjamnoaaDoor
open Go.RowKit Go.Sort

/-- The blocks that Encode's call has laid for itself. -/
structure SO (w : World) (m : Mo) (W : World) : Prop where
  b : Below w.heap.size w W
  m : W.heap[w.heap.size]? = some (.cells (moC m) 25)
  f : W.heap[w.heap.size + 1]? = some (.cells #[.int .i64 0, .int .i64 0, .int .i64 0] 30)
theorem SO.gr {w : World} {m : Mo} {W W' : World} (h : SO w m W) (hg : Gr w.heap.size W W') : SO w m W' := ⟨h.b.trans hg.b, hg.o _ _ _ _ h.m (by decide), hg.o _ _ _ _ h.f (by decide)⟩
theorem SO.stay {w : World} {m : Mo} {W W' : World} (h : SO w m W) (hb : Below W.heap.size W W') : SO w m W' := h.gr (Gr.stay h.b.size hb)
theorem Gr.blk {N : Nat} {W W' : World} (hg : Gr N W W') {k : Nat} {cs : Array Value} {T : TypeId} {fz : Nat × Nat} (h : W.heap[k]? = some (.cells cs T fz)) (hT : T ≠ 5) : W'.heap[k]? = some (.cells cs T fz) := hg.o _ _ _ _ h hT
theorem int_lt {a b : Nat} (h : a < b) : (a : Int) < (b : Int) := by omega
theorem nat_eq {a b : Nat} (h : a ≤ b) (h' : ¬ a < b) : a = b := by omega
theorem nat_lt {a b : Nat} (h : (a : Int) < (b : Int)) : a + 1 ≤ b := by omega
theorem meas {a b : Nat} (h : (a : Int) < (b : Int)) : b - (a + 1) < b - a := by omega
theorem mod_nat {n : Nat} (h : n * 40 ≤ 140737488351232) : ((n : Int) % 18446744073709551616) = n := by omega
theorem ns_le {A : Bt} {s : ByteArray} (h : A.length + s.size ≤ 80000000) : A.length + s.data.toList.length ≤ 140737488355328 := by rw [ba_len]; omega
theorem le9 {n : Nat} (h : n ≤ 80000000) : n ≤ 90000000 := by omega
theorem le_l {a b : Nat} (h : a + b ≤ 80000000) : a ≤ 80000000 := by omega
theorem flat_room {α : Type} {g : α → Bt} {l : List α} {j : Nat} {A : Bt} (hlt : j < l.length) (h : A.length + (l.flatMap g).length ≤ 80000000) : (A ++ (l.take j).flatMap g ++ g l[j]).length ≤ 80000000 := by
  have h1 := flat_le (g := g) l (j + 1)
  rw [flat_more hlt, List.length_append] at h1
  rw [List.length_append, List.length_append]; omega
theorem app_le {A B : Bt} (h : (A ++ B).length ≤ 80000000) : A.length ≤ 80000000 := by rw [List.length_append] at h; omega
theorem app8_le {A : Bt} (z : Int) (h : A.length ≤ 80000000) : (A ++ w8B z).length ≤ 90000000 := by rw [List.length_append, w8B_len]; omega
theorem app4_le {A : Bt} (a b c d : Int) (h : A.length ≤ 80000000) : (A ++ (w1B a ++ w1B b ++ w1B c ++ w1B d)).length ≤ 90000000 := by simp only [List.length_append, w1B_len]; omega
/-- A number, as the document's own Encode puts it. -/
theorem rput (w : World) (m : Mo) (k : Nat) (z : Int) (A : Bt) (v : Value) (W : World) (hk : k ≤ 8) (hl : A.length ≤ 90000000) (hs : SO w m W) (h : Ob w.heap.size A v W) : Calls Tryd.prog 19 #[v, .int .u64 (z % 18446744073709551616), .int .i64 (k : Int)] W (NuP w.heap.size (A ++ leB k (u64N z)) W) := by
  have := rnumb_any w.heap.size A v W k (u64N z) h hs.b.size hk (u64N_lt z) hl
  rwa [u64N_cast] at this
set_option maxRecDepth 100000 in
set_option maxHeartbeats 8000000 in
theorem rencode_any (m : Mo) (w : World) (hm : m.In w) : Calls Tryd.prog 9 #[m.val] w (EnP m w) := by
  have hb0 := Below.one (Below.refl _ w) (.cells (moC m) 25)
  have hb1 := Below.one hb0 (.cells #[.int .i64 0, .int .i64 0, .int .i64 0] 30)
  have xm0 := heap_alloc_new w (.cells (moC m) 25)
  have xm := blk_stay xm0 (Below.one (Below.refl _ _) (.cells #[.int .i64 0, .int .i64 0, .int .i64 0] 30))
  have xf := heap_alloc_new (w.alloc (.cells (moC m) 25)) (.cells #[.int .i64 0, .int .i64 0, .int .i64 0] 30)
  rw [World.size_alloc] at xf
  have HM := Hid.mk' (rmay_any m _ (hm.stay hb1))
  have HS : Hid (SO w m _) := ⟨hb1, xm, xf⟩
  have x0 := cell_of_obj xm (j := 0) (v := .slice m.ta m.ths.length m.tc) rfl
  have x1 := cell_of_obj xm (j := 1) (v := .slice m.fa m.funcs.length m.fc) rfl
  have HY : Hid ((mayZ m).1 = 0 → mayZ m = (0, 0, 0) ∧ encB m = moB m ∧ (moB m).length ≤ 80000000) := fun hz => ⟨may_zero hz, if_pos hz, by have := moB_len (may_ok hz); omega⟩
  have HN : Hid ((mayZ m).1 ≠ 0 → encB m = []) := fun hz => if_neg hz
  have HI := Hid.mk' hm
  have HPU := Hid.mk' (fun k z A v W => rput w m k z A v W)
  clear hm hb0 hb1 xm0 xm xf
  unfold EnP
  unfold fltV at *
  generalize mayZ m = z at *
  obtain ⟨z0, z1, z2⟩ := z
  generalize encB m = E at *
  unfold Mo.val at *
  go_enter Tryd.func9, Tryd.ntmps9
  go_wp2_with fail
  generalize (w.alloc (.cells (moC m) 25)).alloc (.cells #[.int .i64 0, .int .i64 0, .int .i64 0] 30) = W1 at *
  refine HM.out.mono ?_
  rintro e W2 ⟨rfl, hb2⟩
  have hs1 : w.heap.size + 1 < W2.heap.size := by have h1 := (Array.getElem?_eq_some_iff.1 HS.out.f).1; have h2 := hb2.size; omega
  have hb3 := Below.one hb2 (.cells #[.int .i64 z0, .int .i64 z1, .int .i64 z2] 30)
  have HF := Hid.mk' (heap_alloc_new W2 (.cells #[.int .i64 z0, .int .i64 z1, .int .i64 z2] 30))
  replace HS := Hid.mk' (HS.out.stay hb3)
  have f0 := cell_of_obj HF.out (j := 0) (v := .int .i64 z0) rfl
  have f1 := cell_of_obj HF.out (j := 1) (v := .int .i64 z1) rfl
  have f2 := cell_of_obj HF.out (j := 2) (v := .int .i64 z2) rfl
  clear hb2 hb3 HM x0 x1
  by_cases hz0 : z0 = 0
  · obtain ⟨hz, he, hl⟩ := HY.out hz0
    subst hz0
    injection hz with _ hz
    injection hz with hz1 hz2
    subst hz1 hz2 he
    clear HY HN
    have hpl : m.ths.length * 8 ≤ 140737488351232 := HI.out.1.1
    have hcl : m.funcs.length * 80 ≤ 140737488351232 := HI.out.2.2.1.1
    have HE : Hid (moB m = sigB ++ w1B m.ths.length ++ m.ths.flatMap w8B ++ w1B m.funcs.length ++ m.funcs.flatMap fnB) := (rfl : _ = _)
    rw [HE.out] at hl
    obtain ⟨A2, e2⟩ : ∃ A, sigB ++ w1B m.ths.length = A := ⟨_, rfl⟩
    rw [e2] at hl HE
    obtain ⟨A3, e3⟩ : ∃ A, A2 ++ m.ths.flatMap w8B = A := ⟨_, rfl⟩
    rw [e3] at hl HE
    obtain ⟨A4, e4⟩ : ∃ A, A3 ++ w1B m.funcs.length = A := ⟨_, rfl⟩
    rw [e4] at hl HE
    obtain ⟨A5, e5⟩ : ∃ A, A4 ++ m.funcs.flatMap fnB = A := ⟨_, rfl⟩
    rw [e5] at hl HE
    have l2 : A2.length = 5 := by rw [← e2, List.length_append, w1B_len]; rfl
    have l3 : A3.length = A2.length + (m.ths.flatMap w8B).length := by rw [← e3, List.length_append]
    have l4 : A4.length = A3.length + 1 := by rw [← e4, List.length_append, w1B_len]
    have l5 : A5.length = A4.length + (m.funcs.flatMap fnB).length := by rw [← e5, List.length_append]
    have HE3 := Hid.mk' e3
    have HE5 := Hid.mk' e5
    have HE4 := Hid.mk' e4
    have b2 : A2.length + (m.ths.flatMap w8B).length ≤ 80000000 := by omega
    have b3 : A3.length ≤ 80000000 := by omega
    have b4 : A4.length + (m.funcs.flatMap fnB).length ≤ 80000000 := by omega
    have HE2 : Hid (∀ W : World, w.heap.size ≤ W.heap.size → Ob w.heap.size A2 (.slice (some ⟨W.heap.size, 0, none⟩) 5 5) (W.alloc (.cells #[.int .u8 83, .int .u8 70, .int .u8 84, .int .u8 1, .int .u8 ((m.ths.length : Int) % 256)] 5))) := fun W hW => by
      have := ob_new (N := w.heap.size) (W := W) A2 hW (by omega)
      rw [l2, ← e2, w1B_eq] at this
      rw [← e2, w1B_eq, byte_z]
      exact this
    clear e2 e3 e4 e5 f1 f2 l2 l3 l4 l5 hl
    have x0 := cell_of_obj HS.out.m (j := 0) (v := .slice m.ta m.ths.length m.tc) rfl
    go_upto_region 4 with fail
    generalize W2.alloc (.cells #[.int .i64 0, .int .i64 0, .int .i64 0] 30) = W3 at *
    clear f0 HF
    have HO := Hid.mk' (HE2.out W3 HS.out.b.size)
    replace HS := Hid.mk' (HS.out.stay (Below.one (Below.refl _ W3) (.cells #[.int .u8 83, .int .u8 70, .int .u8 84, .int .u8 1, .int .u8 ((m.ths.length : Int) % 256)] 5)))
    clear HE2
    go_upto_region 5 with fail
    generalize W3.alloc (.cells #[.int .u8 83, .int .u8 70, .int .u8 84, .int .u8 1, .int .u8 ((m.ths.length : Int) % 256)] 5) = W4 at *
    generalize hv5 : Value.slice (some ⟨W3.heap.size, 0, none⟩) 5 5 = v5 at *
    clear hv5 x0
    go_wp2_with fail
    go_loopw [5, 6] (fun t5 t6 wr => ∃ (j : Nat), j ≤ m.ths.length ∧ t6 = .int .i64 j ∧ Ob w.heap.size (A2 ++ (m.ths.take j).flatMap w8B) t5 wr ∧ SO w m wr) (fun _ t6 _ => m.ths.length - (intOf t6).toNat)
    case atStart => exact ⟨0, Nat.zero_le _, rfl, by simpa using HO.out, HS.out⟩
    case round =>
      obtain ⟨j, hj, rfl, h1, hso⟩ := hrel
      clear HO HS
      have x0 := cell_of_obj hso.m (j := 0) (v := .slice m.ta m.ths.length m.tc) rfl
      by_cases hlt : j < m.ths.length
      · have hli := int_lt hlt
        obtain ⟨bp, op, ea, c0⟩ := thr_at (HI.out.1.stay hso.b) hlt
        have HFM := Hid.mk' (flat_more (g := w8B) hlt)
        have HFL := Hid.mk' (flat_le (g := w8B) m.ths (j + 1))
        have hla := le9 (app_le (flat_room hlt b2))
        generalize m.ths[j] = z at *
        have HP : Hid (A2 ++ (m.ths.take (j + 1)).flatMap w8B = A2 ++ (m.ths.take j).flatMap w8B ++ w8B z) := (by rw [HFM.out]; simp : _ = _)
        generalize A2 ++ (m.ths.take j).flatMap w8B = B1 at *
        obtain ⟨a1, c1, rfl⟩ := gown_form h1
        have HD := Hid.mk' (HPU.out 8 z B1 _ wr (by decide) hla hso h1)
        rw [show leB 8 (u64N z) = w8B z from rfl] at HD
        generalize B1 ++ w8B z = B2 at *
        have HSO := Hid.mk' hso
        rw [ea] at x0
        clear h1 hso hla HFM HFL ea
        go_wp2_with (go_at_call 19; refine HD.out.mono ?_; rintro e Y1 ⟨v1, rfl, ho1, hg1⟩; obtain ⟨a2, c2, rfl⟩ := gown_form ho1)
        go_roundw
        case rel => exact ⟨j + 1, nat_lt hli, by go_num, by rw [HP.out]; exact ho1, HSO.out.gr hg1⟩
        case measure => simp [intOf]; first | exact meas hli | omega
      · have hje := nat_eq hj hlt
        rw [hje, List.take_length, HE3.out] at h1
        clear hje
        obtain ⟨a1, c1, rfl⟩ := gown_form h1
        have hN := hso.b.size
        have HAP := Hid.mk' (app_one (m.funcs.length : Int) h1 hN (le9 b3))
        rw [HE4.out] at HAP
        have x1 := cell_of_obj hso.m (j := 1) (v := .slice m.fa m.funcs.length m.fc) rfl
        have HSO := Hid.mk' hso
        clear h1 hso
        go_wp2_with (at_builtin; refine wpl_app rfl _ _ 27 27 _ _ rfl rfl rfl HAP.out ?_; rintro v9 W9 ⟨ho9, hg9⟩; obtain ⟨a9, c9, rfl⟩ := gown_form ho9)
        have HO := Hid.mk' ho9
        have HS := Hid.mk' (HSO.out.gr hg9)
        clear ho9 hg9 HAP HSO x1 x0
        go_loopw [5, 7] (fun t5 t7 wr => ∃ (j : Nat), j ≤ m.funcs.length ∧ t7 = .int .i64 j ∧ Ob w.heap.size (A4 ++ (m.funcs.take j).flatMap fnB) t5 wr ∧ SO w m wr) (fun _ t7 _ => m.funcs.length - (intOf t7).toNat)
        case atStart => exact ⟨0, Nat.zero_le _, rfl, by simpa using HO.out, HS.out⟩
        case round =>
          obtain ⟨j, hj, rfl, h1, hso⟩ := hrel
          clear HO HS
          have x1 := cell_of_obj hso.m (j := 1) (v := .slice m.fa m.funcs.length m.fc) rfl
          by_cases hlt : j < m.funcs.length
          · have hli := int_lt hlt
            obtain ⟨rb, o, hfa, k0, k1, k2, k3, k4⟩ := fns_at (HI.out.2.2.1.stay hso.b) hlt
            have HFM := Hid.mk' (flat_more (g := fnB) hlt)
            have HFL := Hid.mk' (flat_le (g := fnB) m.funcs (j + 1))
            have HFI := Hid.mk' (HI.out.2.2.2 _ (List.getElem_mem hlt))
            have hla := flat_room hlt b4
            generalize m.funcs[j] = f at *
            have HP : Hid (A4 ++ (m.funcs.take (j + 1)).flatMap fnB = A4 ++ (m.funcs.take j).flatMap fnB ++ fnB f) := (by rw [HFM.out]; simp : _ = _)
            generalize A4 ++ (m.funcs.take j).flatMap fnB = B0 at *
            have hEF : B0 ++ fnB f = B0 ++ w1B f.name.size ++ f.name.data.toList ++ w1B f.params.length ++ f.params.flatMap spB ++ w1B f.regs ++ w2B f.words ++ w2B f.code.length ++ f.code.flatMap insB := by simp [fnB]
            rw [hEF] at hla HP
            clear hEF
            obtain ⟨B1, e1⟩ : ∃ A, B0 ++ w1B f.name.size = A := ⟨_, rfl⟩
            rw [e1] at hla HP
            obtain ⟨B2, e2⟩ : ∃ A, B1 ++ f.name.data.toList = A := ⟨_, rfl⟩
            rw [e2] at hla HP
            obtain ⟨B3, e3⟩ : ∃ A, B2 ++ w1B f.params.length = A := ⟨_, rfl⟩
            rw [e3] at hla HP
            obtain ⟨B4, e4⟩ : ∃ A, B3 ++ f.params.flatMap spB = A := ⟨_, rfl⟩
            rw [e4] at hla HP
            obtain ⟨B5, e5⟩ : ∃ A, B4 ++ w1B f.regs = A := ⟨_, rfl⟩
            rw [e5] at hla HP
            obtain ⟨B6, e6⟩ : ∃ A, B5 ++ w2B f.words = A := ⟨_, rfl⟩
            rw [e6] at hla HP
            obtain ⟨B7, e7⟩ : ∃ A, B6 ++ w2B f.code.length = A := ⟨_, rfl⟩
            rw [e7] at hla HP
            obtain ⟨B8, e8⟩ : ∃ A, B7 ++ f.code.flatMap insB = A := ⟨_, rfl⟩
            rw [e8] at hla HP
            have hsl := ba_len f.name
            have g1 : B1.length = B0.length + 1 := by rw [← e1, List.length_append, w1B_len]
            have g2 : B2.length = B1.length + f.name.size := by rw [← e2, List.length_append, hsl]
            have g3 : B3.length = B2.length + 1 := by rw [← e3, List.length_append, w1B_len]
            have g4 : B4.length = B3.length + (f.params.flatMap spB).length := by rw [← e4, List.length_append]
            have g5 : B5.length = B4.length + 1 := by rw [← e5, List.length_append, w1B_len]
            have g6 : B6.length = B5.length + 2 := by rw [← e6, List.length_append, w2B_len]
            have g7 : B7.length = B6.length + 2 := by rw [← e7, List.length_append, w2B_len]
            have g8 : B8.length = B7.length + (f.code.flatMap insB).length := by rw [← e8, List.length_append]
            have q0 : B0.length ≤ 80000000 := by omega
            have q1 : B1.length + f.name.size ≤ 80000000 := by omega
            have q2 : B2.length ≤ 80000000 := by omega
            have q3 : B3.length + (f.params.flatMap spB).length ≤ 80000000 := by omega
            have q4 : B4.length ≤ 80000000 := by omega
            have q5 : B5.length ≤ 80000000 := by omega
            have q6 : B6.length ≤ 80000000 := by omega
            have q7 : B7.length + (f.code.flatMap insB).length ≤ 80000000 := by omega
            have HE1 := Hid.mk' e1
            have HF2 := Hid.mk' e2
            have HF3 := Hid.mk' e3
            have HF4 := Hid.mk' e4
            have HF5 := Hid.mk' e5
            have HF6 := Hid.mk' e6
            have HF7 := Hid.mk' e7
            have HF8 := Hid.mk' e8
            obtain ⟨a1, c1, rfl⟩ := gown_form h1
            have HSO := Hid.mk' hso
            have HOB := Hid.mk' h1
            have hnl := HFI.out.1
            have hpl2 := HFI.out.2.2.2.1.1
            have hcl2 := HFI.out.2.2.2.2.2.1.1
            rw [hfa] at x1
            clear e1 e2 e3 e4 e5 e6 e7 e8 h1 hso HFM HFL hfa g1 g2 g3 g4 g5 g6 g7 g8 hla hsl
            go_upto_region 14 with fail
            have hbx := Below.one (Below.refl wr.heap.size wr) (.cells (fnC f) 45)
            have HX := Hid.mk' (heap_alloc_new wr (.cells (fnC f) 45))
            replace HSO := Hid.mk' (HSO.out.stay hbx)
            replace HOB := Hid.mk' (own_stay HOB.out hbx)
            clear hbx k0 k1 k2 k3 k4 x1
            generalize wr.alloc (.cells (fnC f) 45) = V at *
            generalize wr.heap.size = F at *
            have HAP := Hid.mk' (app_one (f.name.size : Int) HOB.out HSO.out.b.size (le9 q0))
            rw [HE1.out] at HAP
            have y14 := cell_of_obj HX.out (j := 0) (v := .string f.name) rfl
            go_upto_region 15 with (at_builtin; refine wpl_app rfl _ _ 27 27 _ _ rfl rfl rfl HAP.out ?_; rintro v14 Z14 ⟨ho14, hg14⟩; obtain ⟨a14, c14, rfl⟩ := gown_form ho14)
            replace HOB := Hid.mk' ho14
            replace HSO := Hid.mk' (HSO.out.gr hg14)
            replace HX := Hid.mk' (hg14.blk HX.out (by decide))
            clear ho14 hg14 HAP y14
            have HAP := Hid.mk' (ob_str (l := f.name.data.toList) HOB.out (ns_le q1) HSO.out.b.size 27)
            rw [tb_of, HF2.out] at HAP
            have y15 := cell_of_obj HX.out (j := 0) (v := .string f.name) rfl
            go_upto_region 16 with (at_builtin; refine wpl_app rfl _ _ 27 9 _ _ rfl rfl rfl HAP.out ?_; rintro v15 Z15 ⟨ho15, hg15⟩; obtain ⟨a15, c15, rfl⟩ := gown_form ho15)
            replace HOB := Hid.mk' ho15
            replace HSO := Hid.mk' (HSO.out.gr hg15)
            replace HX := Hid.mk' (hg15.blk HX.out (by decide))
            clear ho15 hg15 HAP y15
            have HAP := Hid.mk' (app_one (f.params.length : Int) HOB.out HSO.out.b.size (le9 q2))
            rw [HF3.out] at HAP
            have y16 := cell_of_obj HX.out (j := 1) (v := .slice f.pa f.params.length f.pc) rfl
            go_upto_region 17 with (at_builtin; refine wpl_app rfl _ _ 27 27 _ _ rfl rfl rfl HAP.out ?_; rintro v16 Z16 ⟨ho16, hg16⟩; obtain ⟨a16, c16, rfl⟩ := gown_form ho16)
            replace HOB := Hid.mk' ho16
            replace HSO := Hid.mk' (HSO.out.gr hg16)
            replace HX := Hid.mk' (hg16.blk HX.out (by decide))
            clear ho16 hg16 HAP y16
            go_wp2_with fail
            go_loopw [5, 9] (fun t5 t9 wr => ∃ (j : Nat), j ≤ f.params.length ∧ t9 = .int .i64 j ∧ Ob w.heap.size (B3 ++ (f.params.take j).flatMap spB) t5 wr ∧ SO w m wr ∧ wr.heap[F]? = some (.cells (fnC f) 45)) (fun _ t9 _ => f.params.length - (intOf t9).toNat)
            case atStart => exact ⟨0, Nat.zero_le _, rfl, by simpa using HOB.out, HSO.out, HX.out⟩
            case round =>
              obtain ⟨i, hi, rfl, h1, hso, hx⟩ := hrel
              clear HOB HSO HX
              have x1 := cell_of_obj hx (j := 1) (v := .slice f.pa f.params.length f.pc) rfl
              by_cases hlt : i < f.params.length
              · have hli2 := int_lt hlt
                obtain ⟨bp, op, ea, c0, c1'⟩ := sps_at (HFI.out.2.2.2.1.stay hso.b) hlt
                have HFM := Hid.mk' (flat_more (g := spB) hlt)
                have HFL := Hid.mk' (flat_le (g := spB) f.params (i + 1))
                have hlp := app_le (flat_room hlt q3)
                obtain ⟨p1, p2, hpe⟩ : ∃ p1 p2, f.params[i] = (p1, p2) := ⟨f.params[i].1, f.params[i].2, rfl⟩
                have HPX : Hid (f.params[i].2 = p2) := (by rw [hpe] : _ = _)
                rw [hpe] at c0 c1' HFM
                simp only at c0 c1'
                clear hpe
                have HPP : Hid (B3 ++ (f.params.take (i + 1)).flatMap spB = B3 ++ (f.params.take i).flatMap spB ++ w8B p1 ++ w8B p2) := (by rw [HFM.out]; simp [spB] : _ = _)
                generalize B3 ++ (f.params.take i).flatMap spB = D1 at *
                have hl2 := app8_le p1 hlp
                obtain ⟨a1, c1, rfl⟩ := gown_form h1
                have HD := Hid.mk' (HPU.out 8 p1 D1 _ wr (by decide) (le9 hlp) hso h1)
                rw [show leB 8 (u64N p1) = w8B p1 from rfl] at HD
                have HD3 : Hid (∀ (v : Value) (W : World), SO w m W → Ob w.heap.size (D1 ++ w8B p1) v W → Calls Tryd.prog 19 #[v, .int .u64 (p2 % 18446744073709551616), .int .i64 8] W (NuP w.heap.size (D1 ++ w8B p1 ++ w8B p2) W)) := fun v W hs ho => HPU.out 8 p2 _ v W (by decide) hl2 hs ho
                generalize D1 ++ w8B p1 ++ w8B p2 = D3 at *
                generalize D1 ++ w8B p1 = D2 at *
                have HSO := Hid.mk' hso
                have HX := Hid.mk' hx
                have hbp : bp < wr.heap.size := lt_of_cell c1'
                have HC1 : Hid (∀ W, SO w m W → W.cell? ⟨bp, op + i * 2 + 1, none⟩ = some (.int .i64 p2)) := fun W hs => by
                  obtain ⟨b2, o2, e2, _, d2⟩ := sps_at (HFI.out.2.2.2.1.stay hs.b) hlt
                  rw [ea] at e2
                  cases e2
                  rw [d2, HPX.out]
                rw [ea] at x1
                have HEA := Hid.mk' ea
                clear h1 hso hx hlp HFM HFL ea hl2 HPX hlt
                go_upto_region 21 with (go_at_call 19; refine HD.out.mono ?_; rintro e Y1 ⟨v1, rfl, ho1, hg1⟩; obtain ⟨a2, c2, rfl⟩ := gown_form ho1)
                replace HSO := Hid.mk' (HSO.out.gr hg1)
                replace HX := Hid.mk' (hg1.blk HX.out (by decide))
                have d1 := HC1.out _ HSO.out
                have x1 := cell_of_obj HX.out (j := 1) (v := .slice f.pa f.params.length f.pc) rfl
                rw [HEA.out] at x1
                have HD4 := Hid.mk' (HD3.out _ _ HSO.out ho1)
                clear ho1 hg1 HD HD3 c0 c1' HC1 HEA
                go_wp2_with (go_at_call 19; refine HD4.out.mono ?_; rintro e Y2 ⟨v2, rfl, ho2, hg2⟩; obtain ⟨a3, c3, rfl⟩ := gown_form ho2)
                go_roundw
                case rel => exact ⟨i + 1, nat_lt hli2, by go_num, by rw [HPP.out]; exact ho2, HSO.out.gr hg2, hg2.blk HX.out (by decide)⟩
                case measure => simp [intOf]; first | exact meas hli2 | omega
              · have hje := nat_eq hi hlt
                rw [hje, List.take_length, HF4.out] at h1
                clear hje
                obtain ⟨a1, c1, rfl⟩ := gown_form h1
                have HOB := Hid.mk' h1
                have HSO := Hid.mk' hso
                have HX := Hid.mk' hx
                clear h1 hso hx
                have HAP := Hid.mk' (app_one (f.regs : Int) HOB.out HSO.out.b.size (le9 q4))
                rw [HF5.out] at HAP
                have y22 := cell_of_obj HX.out (j := 2) (v := .int .i64 f.regs) rfl
                go_upto_region 23 with (at_builtin; refine wpl_app rfl _ _ 27 27 _ _ rfl rfl rfl HAP.out ?_; rintro v22 Z22 ⟨ho22, hg22⟩; obtain ⟨a22, c22, rfl⟩ := gown_form ho22)
                replace HOB := Hid.mk' ho22
                replace HSO := Hid.mk' (HSO.out.gr hg22)
                replace HX := Hid.mk' (hg22.blk HX.out (by decide))
                clear ho22 hg22 HAP y22
                have HD := Hid.mk' (HPU.out 2 (f.words) _ _ _ (by decide) (le9 q5) HSO.out HOB.out)
                rw [show leB 2 (u64N (f.words)) = w2B (f.words) from rfl, HF6.out] at HD
                have y23 := cell_of_obj HX.out (j := 3) (v := .int .i64 f.words) rfl
                go_upto_region 24 with (go_at_call 19; refine HD.out.mono ?_; rintro e Z23 ⟨v23, rfl, ho23, hg23⟩; obtain ⟨a23, c23, rfl⟩ := gown_form ho23)
                replace HOB := Hid.mk' ho23
                replace HSO := Hid.mk' (HSO.out.gr hg23)
                replace HX := Hid.mk' (hg23.blk HX.out (by decide))
                clear ho23 hg23 HD y23
                have HD := Hid.mk' (HPU.out 2 (f.code.length) _ _ _ (by decide) (le9 q6) HSO.out HOB.out)
                rw [show leB 2 (u64N (f.code.length)) = w2B (f.code.length) from rfl, HF7.out] at HD
                rw [mod_nat hcl2] at HD
                have y24 := cell_of_obj HX.out (j := 4) (v := .slice f.ca f.code.length f.cc) rfl
                go_upto_region 25 with (go_at_call 19; refine HD.out.mono ?_; rintro e Z24 ⟨v24, rfl, ho24, hg24⟩; obtain ⟨a24, c24, rfl⟩ := gown_form ho24)
                replace HOB := Hid.mk' ho24
                replace HSO := Hid.mk' (HSO.out.gr hg24)
                replace HX := Hid.mk' (hg24.blk HX.out (by decide))
                clear ho24 hg24 HD y24
                clear x1
                go_wp2_with fail
                go_loopw [5, 10] (fun t5 t10 wr => ∃ (j : Nat), j ≤ f.code.length ∧ t10 = .int .i64 j ∧ Ob w.heap.size (B7 ++ (f.code.take j).flatMap insB) t5 wr ∧ SO w m wr ∧ wr.heap[F]? = some (.cells (fnC f) 45)) (fun _ t10 _ => f.code.length - (intOf t10).toNat)
                case atStart => exact ⟨0, Nat.zero_le _, rfl, by simpa using HOB.out, HSO.out, HX.out⟩
                case round =>
                  obtain ⟨k, hk, rfl, h1, hso, hx⟩ := hrel
                  clear HOB HSO HX
                  have x4 := cell_of_obj hx (j := 4) (v := .slice f.ca f.code.length f.cc) rfl
                  by_cases hlt : k < f.code.length
                  · have hli3 := int_lt hlt
                    obtain ⟨bp, op, ea, c0, c1', c2, c3, c4⟩ := iss_at (HFI.out.2.2.2.2.2.1.stay hso.b) hlt
                    have HFM := Hid.mk' (flat_more (g := insB) hlt)
                    have HFL := Hid.mk' (flat_le (g := insB) f.code (k + 1))
                    have hlp := app_le (flat_room hlt q7)
                    generalize f.code[k] = x at *
                    have HPP : Hid (B7 ++ (f.code.take (k + 1)).flatMap insB = B7 ++ (f.code.take k).flatMap insB ++ (w1B x.op ++ w1B x.a ++ w1B x.b ++ w1B x.c) ++ w8B x.n) := (by rw [HFM.out]; simp [insB] : _ = _)
                    generalize B7 ++ (f.code.take k).flatMap insB = D1 at *
                    have hl2 := app4_le x.op x.a x.b x.c hlp
                    obtain ⟨a1, c1, rfl⟩ := gown_form h1
                    have hbx := Below.one (Below.refl wr.heap.size wr) (.cells (isC x) 58)
                    have HSO := Hid.mk' (hso.stay hbx)
                    have HX := Hid.mk' (blk_stay hx hbx)
                    have HXX := Hid.mk' (heap_alloc_new wr (.cells (isC x) 58))
                    have HAP := Hid.mk' (app_four x.op x.a x.b x.c (own_stay h1 hbx) HSO.out.b.size (le9 hlp))
                    have HD3 : Hid (∀ (v : Value) (W : World), SO w m W → Ob w.heap.size (D1 ++ (w1B x.op ++ w1B x.a ++ w1B x.b ++ w1B x.c)) v W → Calls Tryd.prog 19 #[v, .int .u64 (x.n % 18446744073709551616), .int .i64 8] W (NuP w.heap.size (D1 ++ (w1B x.op ++ w1B x.a ++ w1B x.b ++ w1B x.c) ++ w8B x.n) W)) := fun v W hs ho => HPU.out 8 x.n _ v W (by decide) hl2 hs ho
                    generalize D1 ++ (w1B x.op ++ w1B x.a ++ w1B x.b ++ w1B x.c) ++ w8B x.n = D3 at *
                    generalize D1 ++ (w1B x.op ++ w1B x.a ++ w1B x.b ++ w1B x.c) = D2 at *
                    rw [ea] at x4
                    clear h1 hso hx hlp HFM HFL ea hl2 hlt hbx
                    go_upto_region 29 with fail
                    generalize wr.alloc (.cells (isC x) 58) = V1 at *
                    generalize wr.heap.size = Xi at *
                    clear c0 c1' c2 c3 c4 x4
                    have i0 := cell_of_obj HXX.out (j := 0) (v := .int .i64 x.op) rfl
                    have i1 := cell_of_obj HXX.out (j := 1) (v := .int .i64 x.a) rfl
                    have i2 := cell_of_obj HXX.out (j := 2) (v := .int .i64 x.b) rfl
                    have i3 := cell_of_obj HXX.out (j := 3) (v := .int .i64 x.c) rfl
                    go_upto_region 30 with (at_builtin; refine wpl_app rfl _ _ 27 27 _ _ rfl rfl rfl HAP.out ?_; rintro v29 Z29 ⟨ho29, hg29⟩; obtain ⟨a29, c29, rfl⟩ := gown_form ho29)
                    replace HSO := Hid.mk' (HSO.out.gr hg29)
                    replace HX := Hid.mk' (hg29.blk HX.out (by decide))
                    replace HXX := Hid.mk' (hg29.blk HXX.out (by decide))
                    have i4 := cell_of_obj HXX.out (j := 4) (v := .int .i64 x.n) rfl
                    have HD4 := Hid.mk' (HD3.out _ _ HSO.out ho29)
                    clear ho29 hg29 HAP HD3 i0 i1 i2 i3
                    go_wp2_with (go_at_call 19; refine HD4.out.mono ?_; rintro e Y2 ⟨v2, rfl, ho2, hg2⟩; obtain ⟨a3, c3, rfl⟩ := gown_form ho2)
                    go_roundw
                    case rel => exact ⟨k + 1, nat_lt hli3, by go_num, by rw [HPP.out]; exact ho2, HSO.out.gr hg2, hg2.blk HX.out (by decide)⟩
                    case measure => simp [intOf]; first | exact meas hli3 | omega
                  · have hje := nat_eq hk hlt
                    rw [hje, List.take_length, HF8.out] at h1
                    clear hje
                    obtain ⟨a1, c1, rfl⟩ := gown_form h1
                    have HOB := Hid.mk' h1
                    have HSO := Hid.mk' hso
                    clear h1 hso hx
                    go_wp2_with fail
                    go_roundw
                    case rel => exact ⟨j + 1, nat_lt hli, by go_num, by rw [HP.out]; exact HOB.out, HSO.out⟩
                    case measure => simp [intOf]; first | exact meas hli | omega
          · have hje := nat_eq hj hlt
            rw [hje, List.take_length, HE5.out] at h1
            clear hje
            obtain ⟨a1, c1, rfl⟩ := gown_form h1
            have q0 := cell_of_obj hso.f (j := 0) (v := .int .i64 0) rfl
            have q1 := cell_of_obj hso.f (j := 1) (v := .int .i64 0) rfl
            have q2 := cell_of_obj hso.f (j := 2) (v := .int .i64 0) rfl
            have fz := fun j => Lib.frozen_of_heap hso.f j
            have HOB := Hid.mk' h1
            have HSO := Hid.mk' hso
            clear h1 hso
            go_wp2_with fail
            exact bodyPost_ret (v := .tuple #[.slice a1 A5.length c1, .agg #[.int .i64 0, .int .i64 0, .int .i64 0]]) (by simp [results, Tryd.results9, go_sem, *]) rfl ⟨_, rfl, by rw [HE.out]; exact own_put HOB.out HSO.out.f (by decide) (set3 _ _ _ _ _), (((HSO.out.b.setCell (by simp only; omega) _).setCell (by simp only; omega) _).setCell (by simp only; omega) _)⟩
  · have hq : (z0 != 0) = true := bne_of hz0
    have hE := HN.out hz0
    subst hE
    have r0 := cell_of_obj HS.out.f (j := 0) (v := .int .i64 0) rfl
    have r1 := cell_of_obj HS.out.f (j := 1) (v := .int .i64 0) rfl
    have r2 := cell_of_obj HS.out.f (j := 2) (v := .int .i64 0) rfl
    have r3 := fun j => Lib.frozen_of_heap HS.out.f j
    have hg : ¬ W2.heap.size = w.heap.size + 1 := by omega
    have hg' : ¬ w.heap.size + 1 = W2.heap.size := by omega
    clear HY HN hz0
    go_upto_region 3 with fail
    generalize W2.alloc (.cells #[.int .i64 z0, .int .i64 z1, .int .i64 z2] 30) = W3 at *
    have hgl := (Array.getElem?_eq_some_iff.1 HS.out.f).1
    go_region
    all_goals go_wp2_with fail
    all_goals exact bodyPost_ret (v := .tuple #[.slice none 0 0, .agg #[.int .i64 z0, .int .i64 z1, .int .i64 z2]]) (by simp [results, Tryd.results9, go_sem, *]) rfl ⟨_, rfl, World.ownsRow_nil _ _ _ _, (((Below.drew HS.out.b).setCell (by simp only; omega) _).setCell (by simp only; omega) _).setCell (by simp only; omega) _⟩
end Go.Proofs.YtfamomjgjamnoaaDoor
