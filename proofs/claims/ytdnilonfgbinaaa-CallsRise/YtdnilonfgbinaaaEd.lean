/- The document's own copies: Copy. -/
import Derived.Test.YtdnilonfgbinaaaEc
namespace Go.Proofs.Ytdnilonfgbinaaa
open Go.RowKit Go.Sort

set_option maxRecDepth 100000 in
set_option maxHeartbeats 4000000 in
theorem copy_any (m : Mo) (w : World) (hm : m.In w) : Calls Try.prog 6 #[m.val] w fun e w' => ∃ q : Mo, e = .returned q.val ∧ q.In w' ∧ q.er = m.er ∧ Below w.heap.size w w' := by
  have HM := Hid.mk' hm
  have ht := hm.1.1
  have hc := hm.2.2.1.1
  obtain ⟨i0, hi, hz0, hz1, hz2⟩ := info_parts Try.infoI
  obtain ⟨i1, gi, gz0, gz1, gz2⟩ := info_parts Try.infoF
  have HI0 := Hid.mk' hi
  have HI1 := Hid.mk' gi
  clear hi gi hm
  unfold Mo.val
  have hb := Below.one (Below.one (Below.one (Below.refl _ w) (oM m)) (.cells #[.slice none 0 0, .slice none 0 0] 25)) (.cells #[] 2)
  have HO := Hid.mk' (own_mono (N' := w.heap.size) (row_new ((w.alloc (oM m)).alloc (.cells #[.slice none 0 0, .slice none 0 0] 25)) 2 1) (by simp; omega))
  rw [World.size_alloc, World.size_alloc] at HO
  have X : (((w.alloc (oM m)).alloc (.cells #[.slice none 0 0, .slice none 0 0] 25)).alloc (.cells #[] 2)).heap[w.heap.size]? = some (oM m) := by
    rw [Below.heap_alloc _ _ _ (by simp; omega), Below.heap_alloc _ _ _ (by simp)]; exact heap_alloc_new _ _
  have Y : (((w.alloc (oM m)).alloc (.cells #[.slice none 0 0, .slice none 0 0] 25)).alloc (.cells #[] 2)).heap[w.heap.size + 1]? = some (.cells #[.slice none 0 0, .slice none 0 0] 25) := by
    rw [Below.heap_alloc _ _ _ (by simp)]
    have := heap_alloc_new (w.alloc (oM m)) (.cells #[.slice none 0 0, .slice none 0 0] 25)
    rwa [World.size_alloc] at this
  have HX := Hid.mk' X
  have HY := Hid.mk' Y
  have L0 := Hid.mk' (flat_len (f := thC) (k := 1) (fun _ => rfl) m.ths)
  have N0 := Hid.mk' (rowIn_none (HM.out.1.stay hb).2)
  have S0 := Hid.mk' (src_news (k := 1) (f := thC) (HM.out.1.stay hb).2 (fun _ => rfl) (by omega))
  have M0 : Hid (0 + m.ths.length ≤ maxLen) := (by unfold maxLen; omega : 0 + m.ths.length ≤ maxLen)
  have B0 : Hid ((0 + m.ths.length) * 8 ≤ 140737488355328) := (by omega : (0 + m.ths.length) * 8 ≤ 140737488355328)
  clear X Y
  have HC : Hid (∀ (f : Fn) (w' : World), f ∈ m.funcs → Below w.heap.size w w' → Calls Try.prog 14 #[.agg #[.string f.name, .slice f.pa f.params.length f.pc, .int .i64 f.regs, .int .i64 f.words, .slice f.ca f.code.length f.cc]] w' fun e w'' => ∃ g : Fn, e = .returned g.val ∧ Cpd w'' w'.heap.size g f ∧ Below w'.heap.size w' w'') := fun f w' hf hb => copyFunc_any f w' ((HM.out.2.2.2 f hf).stay hb)
  unfold oM at *
  go_enter Try.func6, Try.ntmps6
  go_upto_region 2 with (at_builtin; refine wpList_append_ownS _ rfl _ _ 22 rfl w.heap.size 2 i0 (.int .i64 0) 1 8 Try.underlying22 HI0.out hz0 hz1 hz2 rfl (by decide) _ 0 [] rfl HO.out m.ta m.ths.length m.tc (m.ths.flatMap thC) rfl L0.out N0.out S0.out (one_th _) M0.out B0.out hb.size ?_; intro v1 w1 own1 grow1; rw [Nat.zero_add, List.nil_append] at own1; obtain ⟨a1, c1, rfl⟩ := gown_form own1; replace grow1 : World.grownBy _ w1 (some (w.heap.size + 1 + 1)) := grow1; have X1 := Hid.mk' ((grow1.block _ (Array.getElem?_eq_some_iff.1 HX.out).1 (ne_some (by omega))).trans HX.out); have Y1 := Hid.mk' ((grow1.block _ (Array.getElem?_eq_some_iff.1 HY.out).1 (ne_some (by omega))).trans HY.out); have HG1 := Hid.mk' grow1; clear grow1)
  have hb1 : Below w.heap.size w w1 := hb.grown HG1.out hb.size (fun k e => by injection e with e; omega)
  have hsz : w.heap.size + 1 + 1 < w1.heap.size := by have := HG1.out.size; simp at this; omega
  have CI : CpI w (w1.alloc (.cells #[.slice a1 m.ths.length c1, .slice none 0 0] 25)) w1.heap.size m a1 c1 [] (.slice none 0 0) 0 :=
    ⟨(Below.heap_alloc _ _ _ (by omega)).trans X1.out, (Below.heap_alloc _ _ _ (by omega)).trans Y1.out, heap_alloc_new _ _, own1.alloc _, World.ownsRow_nil _ _ _ _, rfl, by simp, by simp, Below.one hb1 _⟩
  have HCI := Hid.mk' CI
  have hGw : w.heap.size ≤ w1.heap.size := by omega
  have hGm : w1.heap.size ≠ w.heap.size := by omega
  have hGr : w1.heap.size ≠ w.heap.size + 1 := by omega
  clear CI HX HY X1 Y1 HG1 own1 hb hb1 HO S0
  generalize w1.heap.size = G at *
  generalize w1.alloc (.cells #[.slice a1 m.ths.length c1, .slice none 0 0] 25) = V at *
  go_wp2_with fail
  go_loopw [4] (fun t4 wr => ∃ (j : Nat) (gs : List Fn) (v : Value), j ≤ m.funcs.length ∧ t4 = .int .i64 j ∧ CpI w wr G m a1 c1 gs v j) (fun t4 _ => m.funcs.length - (intOf t4).toNat)
  case atStart => exact ⟨0, [], _, Nat.zero_le _, rfl, HCI.out⟩
  case round =>
    obtain ⟨j, gs, v, hj, rfl, hci⟩ := hrel
    have HI := Hid.mk' hci
    obtain ⟨av, cv, rfl⟩ := gown_form hci.of
    have e1 : wr.cell? ⟨w.heap.size, 1, none⟩ = some (.slice m.fa m.funcs.length m.fc) := Lib.cell_of_heap hci.bm 1
    clear hci
    by_cases hlt : j < m.funcs.length
    · obtain ⟨b, o, ea, c0, c1', c2, c3, c4⟩ := fns_at (HM.out.2.2.1.stay HI.out.hb) hlt
      have hli : (j : Int) < (m.funcs.length : Int) := by omega
      have hf : m.funcs[j]? = some m.funcs[j] := by simp [hlt]
      have HCj := Hid.mk' (HC.out m.funcs[j] wr (List.getElem_mem hlt) HI.out.hb)
      have HF := Hid.mk' hf
      clear hf
      generalize m.funcs[j] = f at *
      rw [ea] at e1
      clear ea
      have M1 : Hid (j + 1 ≤ maxLen) := (by unfold maxLen; omega : j + 1 ≤ maxLen)
      have B1 : Hid ((j + 1) * 80 ≤ 140737488355328) := (by omega : (j + 1) * 80 ≤ 140737488355328)
      go_wp2_with fail
      refine HCj.out.mono ?_
      rintro e w2 ⟨g, rfl, hcpd, hb2⟩
      have HG := Hid.mk' hcpd.own
      have hsz2 := hb2.size
      have hsz1 := HI.out.hb.size
      have HI2 := Hid.mk' (HI.out.stay (Below.one hb2 (.cells #[.string g.name, .slice g.pa g.params.length g.pc, .int .i64 g.regs, .int .i64 g.words, .slice g.ca g.code.length g.cc] 42)))
      have HO2 := Hid.mk' ((HG.out.1.low hsz1).stay (Below.one (Below.refl _ w2) (.cells #[.string g.name, .slice g.pa g.params.length g.pc, .int .i64 g.regs, .int .i64 g.words, .slice g.ca g.code.length g.cc] 42)))
      have HE := Hid.mk' HG.out.2
      have hbx := heap_alloc_new w2 (.cells #[.string g.name, .slice g.pa g.params.length g.pc, .int .i64 g.regs, .int .i64 g.words, .slice g.ca g.code.length g.cc] 42)
      clear hcpd HG HCj HI c0 c1' c2 c3 c4 e1
      unfold Fn.val
      go_upto_region 6 with fail
      have hG3 : G ≠ w2.heap.size := by have := (Array.getElem?_eq_some_iff.1 HI2.out.bo).1; have := HI2.out.bo; intro e; rw [e, hbx] at this; simp at this
      generalize w2.heap.size = g5 at *
      generalize w2.alloc (.cells #[.string g.name, .slice g.pa g.params.length g.pc, .int .i64 g.regs, .int .i64 g.words, .slice g.ca g.code.length g.cc] 42) = W3 at *
      have k1 : W3.cell? ⟨G, 1, none⟩ = some (.slice av j cv) := Lib.cell_of_heap HI2.out.bo 1
      have x0 : W3.cell? ⟨g5, 0, none⟩ = some (.string g.name) := Lib.cell_of_heap hbx 0
      have x1 : W3.cell? ⟨g5, 1, none⟩ = some (.slice g.pa g.params.length g.pc) := Lib.cell_of_heap hbx 1
      have x2 : W3.cell? ⟨g5, 2, none⟩ = some (.int .i64 g.regs) := Lib.cell_of_heap hbx 2
      have x3 : W3.cell? ⟨g5, 3, none⟩ = some (.int .i64 g.words) := Lib.cell_of_heap hbx 3
      have x4 : W3.cell? ⟨g5, 4, none⟩ = some (.slice g.ca g.code.length g.cc) := Lib.cell_of_heap hbx 4
      have HI4 := Hid.mk' (HI2.out.stay (Below.one (Below.refl _ W3) (.cells #[.string g.name, .slice g.pa g.params.length g.pc, .int .i64 g.regs, .int .i64 g.words, .slice g.ca g.code.length g.cc] 42)))
      have HO4 := Hid.mk' (HO2.out.stay (Below.one (Below.refl _ W3) (.cells #[.string g.name, .slice g.pa g.params.length g.pc, .int .i64 g.regs, .int .i64 g.words, .slice g.ca g.code.length g.cc] 42)))
      have HN4 : Hid (∀ j2 u, g.cells[j2]? = some u → (W3.alloc (.cells #[.string g.name, .slice g.pa g.params.length g.pc, .int .i64 g.regs, .int .i64 g.words, .slice g.ca g.code.length g.cc] 42)).cell? ((⟨W3.heap.size, 0, none⟩ : Addr).add j2) = some u) := fun j2 u hu => by
        rw [Addr.add_lit, Nat.zero_add]
        exact new_cell _ _ _ _ _ (by rw [← hu, ← Array.getElem?_toList]; rfl)
      have hs4 : w.heap.size ≤ (W3.alloc (.cells #[.string g.name, .slice g.pa g.params.length g.pc, .int .i64 g.regs, .int .i64 g.words, .slice g.ca g.code.length g.cc] 42)).heap.size := HI4.out.hb.size
      have HS4 := Hid.mk' hs4
      clear hs4
      go_wp2_with (at_builtin; refine wpList_append_own _ rfl _ _ 23 rfl w.heap.size 42 i1 (.agg #[.string ⟨#[]⟩, .slice none 0 0, .int .i64 0, .int .i64 0, .slice none 0 0]) 5 80 Try.underlying23 HI1.out gz0 gz1 gz2 rfl (by decide) _ j (gs.flatMap Fn.cells) rfl HI4.out.of ⟨W3.heap.size, 0, none⟩ 1 1 g.cells rfl rfl HN4.out (one_fn g) M1.out B1.out HS4.out ?_; intro v5 w5 own5 grow5 _; obtain ⟨a5, c5, rfl⟩ := gown_form own5; obtain ⟨bo5, CI5⟩ := HI4.out.next HF.out HO4.out HE.out hGw hGm hGr own5 grow5; have CI5' := Hid.mk' CI5; have y1 : w5.cell? ⟨G, 1, none⟩ = some (.slice av j cv) := Lib.cell_of_heap bo5 1; have y2 : w5.frozen? ⟨G, 1, none⟩ = false := Lib.frozen_of_heap bo5 _; clear bo5 CI5 own5 grow5)
      go_roundw
      case rel => exact ⟨j + 1, gs ++ [g], _, by omega, by go_num, CI5'.out⟩
      case measure => simp [intOf]; omega
    · have hjl : j = m.funcs.length := by omega
      have hli : ¬ ((j : Int) < (m.funcs.length : Int)) := by omega
      have HI2 := Hid.mk' HI.out
      have HJ := Hid.mk' hjl
      have x0 : wr.cell? ⟨G, 0, none⟩ = some (.slice a1 m.ths.length c1) := Lib.cell_of_heap HI.out.bo 0
      have x1 : wr.cell? ⟨G, 1, none⟩ = some (.slice av j cv) := Lib.cell_of_heap HI.out.bo 1
      have y0 : wr.cell? ⟨w.heap.size + 1, 0, none⟩ = some (.slice none 0 0) := Lib.cell_of_heap HI.out.br 0
      have y1 : wr.cell? ⟨w.heap.size + 1, 1, none⟩ = some (.slice none 0 0) := Lib.cell_of_heap HI.out.br 1
      have z0 : wr.frozen? ⟨w.heap.size + 1, 0, none⟩ = false := Lib.frozen_of_heap HI.out.br _
      have z1 : wr.frozen? ⟨w.heap.size + 1, 1, none⟩ = false := Lib.frozen_of_heap HI.out.br _
      clear hjl hlt
      go_wp2_with fail
      have hci := HI.out
      rw [HJ.out] at hci
      obtain ⟨r1, r2⟩ := hci.shut HM.out (set2 wr (w.heap.size + 1) (.slice a1 m.ths.length c1) (.slice av j cv))
      refine bodyPost_ret (v := .agg #[.slice a1 m.ths.length c1, .slice av j cv]) (by simp [results, Try.results6, go_sem, *]) rfl ⟨⟨a1, c1, m.ths, av, cv, gs⟩, ?_, r1, r2, ?_⟩
      · show Ending.returned (.agg #[.slice a1 m.ths.length c1, .slice av j cv]) = .returned (.agg #[.slice a1 m.ths.length c1, .slice av gs.length cv])
        rw [hci.hl, HJ.out]
      · exact (HI.out.hb.setCell (by simp) _).setCell (by simp) _
end Go.Proofs.Ytdnilonfgbinaaa
