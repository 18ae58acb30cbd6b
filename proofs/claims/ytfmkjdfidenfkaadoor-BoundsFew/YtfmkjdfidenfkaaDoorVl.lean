/- Bounds: the analysis. -/
import Derived.Test.YtfmkjdfidenfkaaDoorZas
import Derived.Deep.LoopGhost
namespace Go.Proofs.YtfmkjdfidenfkaaDoor
open Go.RowKit Go.Shelf

theorem itZ_end {m : Mo} {f : Fn} {st : Wk} (h : st.mar.any id = false) : ∀ k, itZ m f k st = st
  | 0 => rfl
  | k + 1 => by unfold itZ; rw [if_neg (by rw [h]; decide)]
theorem itZ_ge {m : Mo} {f : Fn} {r : Nat} (H : FnR m f r) {st : Wk} (h : WkI m.ths f.code.length r st) : ∀ d, itZ m f (mu m.ths.length f.code.length r st + d) st = itZ m f (mu m.ths.length f.code.length r st) st
  | 0 => rfl
  | d + 1 => by
    rw [← Nat.add_assoc, itZ_more _ _ ((itZ_inv H _ h).2 (by omega)), itZ_ge H h d]
theorem itZ_rnd {m : Mo} {f : Fn} {r : Nat} (H : FnR m f r) {st : Wk} (h : WkI m.ths f.code.length r st) (hb : st.mar.any id = true) : itZ m f (mu m.ths.length f.code.length r (rndZ m f st)) (rndZ m f st) = itZ m f (mu m.ths.length f.code.length r st) st := by
  obtain ⟨h1, h2⟩ := rnd_inv H h
  have h3 := h2 hb
  obtain ⟨d, hd⟩ := Nat.exists_eq_add_of_lt h3
  rw [hd]
  show _ = (if st.mar.any id = true then itZ m f (mu m.ths.length f.code.length r (rndZ m f st) + d) (rndZ m f st) else st)
  rw [if_pos hb, itZ_ge H h1 d]
theorem WkAt.low {N n r : Nat} {m : Mo} {f : Fn} {L : Lay} {st : Wk} {sd cm : List Sp} {W W' : World} (h : WkAt N n r m f L st sd cm W) {g : Nat} (ho : OnlyB g W W') (hg : g < N) : WkAt N n r m f L st sd cm W' := by
  obtain ⟨l1, l2, l3, l4, l5, l6, l7⟩ := h.lo
  exact ⟨ho.blk h.wb (by omega), ho.blk h.ib (by omega), ho.blk h.cb (by omega), ho.blk h.mb (by omega), ho.blk h.jb (by omega), h.sb.only ho (by omega), h.db.only ho (by omega), fun i hi hn => (h.iv i hi hn).only ho (by have := (h.lv i hi).2 hn; omega), fun i hi => ho.blk (h.cv i hi) (by have := (h.lv i hi).1; omega), h.dsc, h.ds, h.di, h.dj, h.dc, h.lo, h.lv⟩
theorem WkAt.mono {N N' n r : Nat} {m : Mo} {f : Fn} {L : Lay} {st : Wk} {sd cm : List Sp} {W : World} (h : WkAt N' n r m f L st sd cm W) (hN : N ≤ N') : WkAt N n r m f L st sd cm W := by
  obtain ⟨l1, l2, l3, l4, l5, l6, l7⟩ := h.lo
  exact ⟨h.wb, h.ib, h.cb, h.mb, h.jb, h.sb, h.db, h.iv, h.cv, h.dsc, h.ds, h.di, h.dj, h.dc, by omega, fun i hi => ⟨by have := (h.lv i hi).1; omega, fun hn => by have := (h.lv i hi).2 hn; omega⟩⟩

set_option maxRecDepth 100000 in
set_option maxHeartbeats 8000000 in
theorem run_yes (m : Mo) (n : Nat) (w : World) (ht : Tab w) (hm : m.In w) (hno : (mayZ m).1 = 0) (hn : n < m.funcs.length) : Calls Tryd.prog 8 #[m.val, .int .i64 (n : Int)] w (RnP m n w) := by
  have hfi : m.funcs[n]? = some m.funcs[n] := List.getElem?_eq_getElem hn
  have H := fn_r hno hm hfi
  obtain ⟨f, hf⟩ : ∃ f, m.funcs[n] = f := ⟨_, rfl⟩
  rw [hf] at H hfi
  obtain ⟨r, hr⟩ : ∃ r, f.regs.toNat = r := ⟨_, rfl⟩
  rw [hr] at H
  have hfm : f ∈ m.funcs := List.mem_of_getElem? hfi
  have htl : m.ths.length ≤ 16 := by
    unfold mayZ at hno
    by_cases h0 : (wholeZ m).1 ≠ 0
    · rw [if_pos h0] at hno; exact absurd hno h0
    · unfold wholeZ at h0
      by_cases h1 : m.ths.length > 16
      · rw [if_pos h1] at h0; exact absurd (by decide) h0
      · omega
  have HEND : Hid (∀ w' (L : Lay) (sd cm : List Sp), Below w.heap.size w w' → WkAt w.heap.size f.code.length r m f L (anZ m f) sd cm w' → RnP m (n : Int) w (.returned (.tuple #[.agg #[.slice (some ⟨L.gI, 0, none⟩) f.code.length f.code.length, .slice (some ⟨L.gC, 0, none⟩) f.code.length f.code.length], .int .i64 0])) w') := fun w' L sd cm h h2 => ⟨h, by rw [if_neg (by omega), if_neg (by omega), Int.toNat_natCast]; exact ⟨f, L, sd, cm, hfi, rfl, by rw [hr]; exact h2⟩⟩
  have HMAY : Hid (∀ W, Below w.heap.size w W → Calls Tryd.prog 19 #[m.val] W fun e w' => e = .returned (fltV (mayZ m)) ∧ Below W.heap.size W w') := fun W hW => may_any m W (ht.stay hW) (hm.stay hW)
  have hff := fld_flt
  obtain ⟨z, hz⟩ : ∃ z, mayZ m = z := ⟨_, rfl⟩
  rw [hz] at HMAY hno
  have q1 : (z.1 != 0) = false := bne_no hno
  have hfl : m.funcs.length < 4611686018427387904 := by have := hm.2.2.1.1; omega
  have q2 : decide ((n : Int) < 0) = false := decide_eq_false (by omega)
  have q3 : decide ((m.funcs.length : Int) ≤ (n : Int)) = false := decide_eq_false (by omega)
  have q4 : decide (m.funcs.length ≤ n) = false := decide_eq_false (by omega)
  have hni : (n : Int) < (m.funcs.length : Int) := by omega
  have HFN : Hid (∀ W, Below w.heap.size w W → ∃ b o, m.fa = some ⟨b, o, none⟩ ∧ W.cell? ⟨b, o + n * 5, none⟩ = some (.string f.name) ∧ W.cell? ⟨b, o + n * 5 + 1, none⟩ = some (.slice f.pa f.params.length f.pc) ∧ W.cell? ⟨b, o + n * 5 + 2, none⟩ = some (.int .i64 f.regs) ∧ W.cell? ⟨b, o + n * 5 + 3, none⟩ = some (.int .i64 f.words) ∧ W.cell? ⟨b, o + n * 5 + 4, none⟩ = some (.slice f.ca f.code.length f.cc)) := fun W hW => by
    have := fns_at (hm.stay hW).2.2.1 hn
    rwa [hf] at this
  have HIN := Hid.mk' hm
  clear hno hz ht hm hfi hf
  unfold fltV at HMAY
  unfold Mo.val at HMAY ⊢
  generalize RnP m (n : Int) w = RP at *
  go_enter Tryd.func8, Tryd.ntmps8
  go_upto_region 1 with fail
  have B := Below.one (Below.one (Below.refl _ w) (.cells #[.slice m.ta m.ths.length m.tc, .slice m.fa m.funcs.length m.fc] 25)) (.cells #[.slice none 0 0, .slice none 0 0] 30)
  obtain ⟨hM, hA, -⟩ := two_nw w (.cells #[.slice m.ta m.ths.length m.tc, .slice m.fa m.funcs.length m.fc] 25) (.cells #[.slice none 0 0, .slice none 0 0] 30)
  have m0 := cell_of_obj hM (j := 0) (v := .slice m.ta m.ths.length m.tc) rfl
  have m1 := cell_of_obj hM (j := 1) (v := .slice m.fa m.funcs.length m.fc) rfl
  have HB := Hid.mk' B
  have HM := Hid.mk' hM
  have HA := Hid.mk' hA
  clear hM hA B
  generalize (w.alloc (.cells #[.slice m.ta m.ths.length m.tc, .slice m.fa m.funcs.length m.fc] 25)).alloc (.cells #[.slice none 0 0, .slice none 0 0] 30) = W at *
  go_upto_region 2 with (go_at_call 19; refine (HMAY.out _ HB.out).mono ?_; rintro e w5 ⟨rfl, hb5⟩; have HB5 := Hid.mk' (Below.on HB.out hb5); have HA5 := Hid.mk' (blk_stay HA.out hb5); have HM5 := Hid.mk' (blk_stay HM.out hb5); clear m0 m1)
  have b6 := Below.one (Below.refl _ w5) (.cells #[.int .i64 z.1, .int .i64 z.2.1, .int .i64 z.2.2] 46)
  have n6 := heap_alloc_new w5 (.cells #[.int .i64 z.1, .int .i64 z.2.1, .int .i64 z.2.2] 46)
  have hA6 := blk_stay HA5.out b6
  have hM6 := blk_stay HM5.out b6
  have HB6 := Hid.mk' (Below.on HB5.out b6)
  generalize w5.alloc (.cells #[.int .i64 z.1, .int .i64 z.2.1, .int .i64 z.2.2] 46) = W6 at *
  have x0 := cell_of_obj n6 (j := 0) (v := .int .i64 z.1) rfl
  have r0 := cell_of_obj hA6 (j := 0) (v := .slice none 0 0) rfl
  have r1 := cell_of_obj hA6 (j := 1) (v := .slice none 0 0) rfl
  have rf := fun j => Lib.frozen_of_heap hA6 j
  have e1 : ¬ w5.heap.size = w.heap.size + 1 := ne_ty n6 hA6 (by decide)
  have e2 : ¬ w.heap.size + 1 = w5.heap.size := ne_ty hA6 n6 (by decide)
  have HA6 := Hid.mk' hA6
  have HM6 := Hid.mk' hM6
  clear b6 n6 hb5 hA6 hM6
  have y0 := cell_of_obj HM6.out (j := 0) (v := .slice m.ta m.ths.length m.tc) rfl
  have y1 := cell_of_obj HM6.out (j := 1) (v := .slice m.fa m.funcs.length m.fc) rfl
  obtain ⟨fb, fo, efa, d0, d1, d2, d3, d4⟩ := HFN.out _ HB6.out
  rw [efa] at y1
  have HBG : Hid (∀ W, Below w.heap.size w W → Calls Tryd.prog 20 #[.agg #[.slice m.ta m.ths.length m.tc, .slice (some ⟨fb, fo, none⟩) m.funcs.length m.fc], .agg #[.string f.name, .slice f.pa f.params.length f.pc, .int .i64 f.regs, .int .i64 f.words, .slice f.ca f.code.length f.cc]] W (BgP m f r W)) := fun W hW => by
    have := begin_any H W (HIN.out.stay hW) hfm
    unfold Mo.val at this
    rw [efa] at this
    exact this
  clear efa
  go_upto_region 6 with fail
  go_cut [7] from 26 to 32 (fun t7 wx => ∃ (w0 : World) (L : Lay) (sd cm : List Sp), t7 = .pointer (some ⟨L.B, 0, none⟩) ∧ Below w.heap.size w w0 ∧ w.heap.size + 1 < w0.heap.size ∧ Below w0.heap.size w0 wx ∧ sd.length = r ∧ cm.length = r ∧ WkAt w0.heap.size f.code.length r m f L (begW f) sd cm wx ∧ wx.heap[w.heap.size + 1]? = some (.cells #[.slice none 0 0, .slice none 0 0] 30))
  case first =>
    go_region_held3 (fun w' => w'.cell? ⟨w.heap.size, 0, none⟩ = some (.slice m.ta m.ths.length m.tc) ∧ w'.cell? ⟨w.heap.size, 1, none⟩ = some (.slice (some ⟨fb, fo, none⟩) m.funcs.length m.fc) ∧ w'.cell? ⟨fb, fo + n * 5, none⟩ = some (.string f.name) ∧ w'.cell? ⟨fb, fo + n * 5 + 1, none⟩ = some (.slice f.pa f.params.length f.pc) ∧ w'.cell? ⟨fb, fo + n * 5 + 2, none⟩ = some (.int .i64 f.regs) ∧ w'.cell? ⟨fb, fo + n * 5 + 3, none⟩ = some (.int .i64 f.words) ∧ w'.cell? ⟨fb, fo + n * 5 + 4, none⟩ = some (.slice f.ca f.code.length f.cc)) (go_keep) ((go_at_call 20; refine (HBG.out _ (Below.drew HB6.out)).mono ?_; rintro e w7 ⟨L, sd, cm, rfl, hb7, hs7, hc7, hat7⟩; have B7 := Below.on (Below.drew (Below.refl _ W6)) hb7; have z0 := cell_kept_below y0 B7; have z1 := cell_kept_below y1 B7; have z2 := cell_kept_below d0 B7; have z3 := cell_kept_below d1 B7; have z4 := cell_kept_below d2 B7; have z5 := cell_kept_below d3 B7; have z6 := cell_kept_below d4 B7; have HZ := Hid.mk' (And.intro hb7 (And.intro hs7 (And.intro hc7 (And.intro hat7 (blk_stay HA6.out B7))))); clear hb7 hs7 hc7 hat7))
    go_wp2_with fail
    go_meet
    case rel =>
      obtain ⟨h1, h2, h3, h4, h5⟩ := HZ.out
      exact ⟨W6.drew, L, sd, cm, rfl, Below.drew HB6.out, (Array.getElem?_eq_some_iff.1 HA6.out).1, h1, h2, h3, h4, h5⟩
  case rest =>
    obtain ⟨w0, L, sd, cm, rfl, hb0, hl0, hbx, hsd, hcm, hat, hres⟩ := hcut
    have HB0 := Hid.mk' hb0
    have HL0 := Hid.mk' hl0
    have HM0 := Hid.mk' (HIN.out.stay hb0)
    have HBW := Hid.mk' (begW_inv H (HIN.out.2.2.2 f hfm).2.2.2.2.1)
    have HRES := Hid.mk' ((hbx.block _ hl0).symm.trans hres)
    have HAN : Hid (anZ m f = itZ m f (mu m.ths.length f.code.length r (begW f)) (begW f)) := by show _ = _; unfold anZ; rw [hr]
    have HRD : Hid (∀ (b' : Nat → Nat) (st : Wk) (s1 c1 : List Sp) (W : World), Below w0.heap.size w0 W → s1.length = r → c1.length = r → WkI m.ths f.code.length r st → WkAt w0.heap.size f.code.length r m f { L with bI := b' } st s1 c1 W → Calls Tryd.prog 22 #[.pointer (some ⟨L.B, 0, none⟩)] W fun e w' => RdP w0.heap.size W e w' fun w' => ∃ (b2 : Nat → Nat) (s2 c2 : List Sp), s2.length = r ∧ c2.length = r ∧ WkAt w0.heap.size f.code.length r m f { L with bI := b2 } (rndZ m f st) s2 c2 w') := fun b' st s1 c1 W h1 h2 h3 h4 h5 =>
      callsIn_wide.1 (wround_any (L := { L with bI := b' }) rfl HM0.out H W h5 h4 h2 h3 htl h1 hfm)
    clear hb0 hl0 hres HFN HBG HMAY y0 y1 d0 d1 d2 d3 d4 x0 r0 r1 rf e1 e2 hff q1 q2 q3 q4 hni hfl
    go_wp2_with fail
    go_loopg [] (mu m.ths.length f.code.length r (begW f)) (fun k wr => ∃ (st : Wk) (b' : Nat → Nat) (s1 c1 : List Sp), mu m.ths.length f.code.length r st = k ∧ Below w0.heap.size w0 wr ∧ s1.length = r ∧ c1.length = r ∧ WkI m.ths f.code.length r st ∧ WkAt w0.heap.size f.code.length r m f { L with bI := b' } st s1 c1 wr ∧ itZ m f (mu m.ths.length f.code.length r st) st = anZ m f)
    case atStart => exact ⟨begW f, L.bI, sd, cm, rfl, hbx, hsd, hcm, HBW.out, hat, HAN.out.symm⟩
    case round =>
      obtain ⟨st, b', s1, c1, rfl, hbr, hs1, hc1, hwi, har, hit⟩ := hrel
      have HI := Hid.mk' (And.intro hbr (And.intro hs1 (And.intro hc1 (And.intro hwi (And.intro har hit)))))
      have e9 := har.k9
      dsimp only at e9
      have HCB := Hid.mk' (containsB_any st.mar (some ⟨L.gM, 0, none⟩) f.code.length wr (row_lst har.mb) (by rw [hwi.lm]; have := H.ok.len; omega))
      rw [hwi.lm] at HCB
      clear hbr hs1 hc1 hwi har hit
      by_cases hb : st.mar.any id = true
      · rw [hb] at HCB
        have HBB := Hid.mk' hb
        clear hb
        go_wp2_with (first | (go_at_call 21; refine HCB.out.mono ?_; rintro e w8 ⟨rfl, rfl⟩) | (go_at_call 22; obtain ⟨h1, h2, h3, h4, h5, h6⟩ := HI.out; refine (HRD.out _ _ _ _ _ h1 h2 h3 h4 h5).mono ?_; rintro e w9 ⟨⟨v, rfl⟩, hb9, b2, s2, c2, hs2, hc2, hat2⟩; have HE := Hid.mk' (And.intro (h1.trans hb9) (And.intro hs2 (And.intro hc2 (And.intro (rnd_inv H h4).1 (And.intro hat2 (And.intro ((itZ_rnd H h4 HBB.out).trans h6) ((rnd_inv H h4).2 HBB.out))))))); clear h1 h2 h3 h4 h5 h6 hb9 hs2 hc2 hat2))
        obtain ⟨g1, g2, g3, g4, g5, g6, g7⟩ := HE.out
        go_roundg (mu m.ths.length f.code.length r (rndZ m f st))
        case measure => exact g7
        case rel => exact ⟨rndZ m f st, b2, s2, c2, rfl, g1, g2, g3, g4, g5, g6⟩
      · have hb' : st.mar.any id = false := by simpa using hb
        rw [hb'] at HCB
        obtain ⟨h1, h2, h3, h4, h5, h6⟩ := HI.out
        rw [itZ_end hb'] at h6
        rw [h6] at h5
        have hAr := (h1.block _ HL0.out).trans HRES.out
        have c7 := h5.k7
        have c8 := h5.k8
        dsimp only at c7 c8
        have r0 := cell_of_obj hAr (j := 0) (v := .slice none 0 0) rfl
        have r1 := cell_of_obj hAr (j := 1) (v := .slice none 0 0) rfl
        have rf := fun j => Lib.frozen_of_heap hAr j
        have ne1 : ¬ L.B = w.heap.size + 1 := ne_ty h5.wb hAr (by decide)
        have ne2 : ¬ w.heap.size + 1 = L.B := ne_ty hAr h5.wb (by decide)
        have hof := ((OnlyB.refl (w.heap.size + 1) wr).set 0 (.slice (some ⟨L.gI, 0, none⟩) f.code.length f.code.length)).set 1 (.slice (some ⟨L.gC, 0, none⟩) f.code.length f.code.length)
        have hbf : Below w.heap.size w wr := HB0.out.trans (h1.mono HB0.out.size)
        have HF := Hid.mk' (HEND.out _ { L with bI := b' } s1 c1 ((hbf.setCell (p := ⟨w.heap.size + 1, 0, none⟩) (by simp only; omega) (.slice (some ⟨L.gI, 0, none⟩) f.code.length f.code.length)).setCell (p := ⟨w.heap.size + 1, 1, none⟩) (by simp only; omega) (.slice (some ⟨L.gC, 0, none⟩) f.code.length f.code.length)) ((h5.low hof HL0.out).mono HB0.out.size))
        dsimp only at HF
        clear h1 h2 h3 h4 h5 h6 hof hbf hAr HI HRD hb hb'
        go_wp2_with (go_at_call 21; refine HCB.out.mono ?_; rintro e w8 ⟨rfl, rfl⟩)
        exact bodyPost_ret (v := .tuple #[.agg #[.slice (some ⟨L.gI, 0, none⟩) f.code.length f.code.length, .slice (some ⟨L.gC, 0, none⟩) f.code.length f.code.length], .int .i64 0]) (by simp [results, Tryd.results8, go_sem, *]) rfl HF.out
/-- The analysis, or why there is none. -/
theorem run_any (m : Mo) (fn : Int) (w : World) (ht : Tab w) (hm : m.In w) : Calls Tryd.prog 8 #[m.val, .int .i64 fn] w (RnP m fn w) := by
  by_cases h1 : (mayZ m).1 ≠ 0
  · exact run_may m fn w ht hm h1
  · have h1' : (mayZ m).1 = 0 := by omega
    by_cases h2 : fn < 0 ∨ (m.funcs.length : Int) ≤ fn
    · exact run_arg m fn w ht hm h1' h2
    · obtain ⟨n, rfl⟩ := Int.eq_ofNat_of_zero_le (show 0 ≤ fn by omega)
      exact run_yes m n w ht hm h1' (by omega)
end Go.Proofs.YtfmkjdfidenfkaaDoor
