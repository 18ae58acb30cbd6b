/- The document's own Parse, for every text up to ten million bytes. -/
import Derived.Test.YtboidkmnkicoeaaGreatDoorVp
import Derived.Test.YtboidkmnkicoeaaGreatDoorVq
namespace Go.Proofs.YtboidkmnkicoeaaGreatDoor
open Go.RowKit Go.Sort

set_option maxRecDepth 100000 in
set_option maxHeartbeats 16000000 in
theorem rparse_any (s : Bt) (hs : s.length ≤ 10000000) (w : World) : Calls Tryz.prog 5 #[.string (tb s)] w (PaR w s) := by
  have HE : Hid (∀ (e : Int) (n p : Nat) (W : World), goZ (spl 10 s) 1 dr0 = .error (e, n, p) → e ≠ 0 → Below w.heap.size w W → PaR w s (.returned (.tuple #[.agg #[.slice none 0 0, .slice none 0 0], .int .i64 e, .int .i64 n, .int .i64 p])) W) := fun e n p W h he hb => pap_err h he hb
  have hb0 := Below.one (Below.one (Below.one (Below.one (Below.refl _ w) (.cells #[.slice none 0 0, .slice none 0 0] 25)) (.cells #[.slice none 0 0, .slice none 0 0] 25)) (.cells #[] 3)) (.cells #[] 40)
  have HL0 : Hid (LnS w s (.slice (some ⟨w.heap.size + 2, 0, none⟩) 0 0) (.slice (some ⟨w.heap.size + 3, 0, none⟩) 0 0) 0 1 ((((w.alloc (.cells #[.slice none 0 0, .slice none 0 0] 25)).alloc (.cells #[.slice none 0 0, .slice none 0 0] 25)).alloc (.cells #[] 3)).alloc (.cells #[] 40))) := by
    refine ⟨dr0, [], [], .slice none 0 0, .slice none 0 0, w.heap.size, w.heap.size, Nat.le_refl _, by omega, by omega, by simp [dr0], ⟨hb0, ?_, ?_, World.ownsRow_nil _ _ _ _, World.ownsRow_nil _ _ _ _, ?_, ?_, fun g hg => by simp at hg, fun g hg => by simp at hg, ⟨Nat.le_refl _, hb0.size⟩, ⟨Nat.le_refl _, hb0.size⟩, fun hd g e => by simp at e, fun hd g e => by simp at e, fun q hq => by simp at hq⟩, PrK.start, by simp⟩
    · rw [Below.heap_alloc _ _ _ (by simp <;> omega), Below.heap_alloc _ _ _ (by simp <;> omega), Below.heap_alloc _ _ _ (by simp)]; exact heap_alloc_new _ _
    · rw [Below.heap_alloc _ _ _ (by simp <;> omega), Below.heap_alloc _ _ _ (by simp)]
      have := heap_alloc_new (w.alloc (.cells #[.slice none 0 0, .slice none 0 0] 25)) (.cells #[.slice none 0 0, .slice none 0 0] 25)
      rwa [World.size_alloc] at this
    · have := (row_new ((w.alloc (.cells #[.slice none 0 0, .slice none 0 0] 25)).alloc (.cells #[.slice none 0 0, .slice none 0 0] 25)) 3 1).alloc (.cells #[] 40)
      rw [World.size_alloc, World.size_alloc] at this
      exact own_mono this (by omega)
    · have := row_new (((w.alloc (.cells #[.slice none 0 0, .slice none 0 0] 25)).alloc (.cells #[.slice none 0 0, .slice none 0 0] 25)).alloc (.cells #[] 3)) 40 1
      rw [World.size_alloc, World.size_alloc, World.size_alloc] at this
      exact own_mono this (by omega)
  clear hb0
  generalize hP : PaR w s = P at *
  go_enter Tryz.func5, Tryz.ntmps5
  go_wp2_with fail
  generalize (((w.alloc (.cells #[.slice none 0 0, .slice none 0 0] 25)).alloc (.cells #[.slice none 0 0, .slice none 0 0] 25)).alloc (.cells #[] 3)).alloc (.cells #[] 40) = W0 at *
  have HEX : Hid (∀ i j, (tb s).extract i j = tb (cutB s i j)) := fun i j => by rw [ext_tb, tb_list]
  obtain ⟨S, hS⟩ : ∃ S, S = tb s := ⟨_, rfl⟩
  have hsz : S.size = s.length := by rw [hS]; exact tb_size s
  have HK : Hid (∀ k (h : k < s.length) (h' : k < S.size), (S[k]'h').toNat = s[k].toNat) := by intro k h h'; subst hS; rfl
  rw [← hS] at HEX ⊢
  have HSZ := Hid.mk' hsz
  have hS2 : S.size ≤ 10000000 := by omega
  have HSL := Hid.mk' hs
  clear hS hsz hs
  go_loopw [7, 8, 9, 10] (fun t7 t8 t9 t10 wr => ∃ fr n : Nat, t9 = .int .i64 fr ∧ t10 = .int .i64 n ∧ LnS w s t7 t8 fr n wr) (fun _ _ t9 _ _ => s.length + 1 - (intOf t9).toNat)
  case atStart => exact ⟨0, 1, rfl, rfl, HL0.out⟩
  case round =>
    obtain ⟨fr, n, rfl, rfl, d, gs, qs, vt, vf, B, C, hn1, hnf, hfs, hthl, hrf, hpk, hgo⟩ := hrel
    clear HL0
    obtain ⟨a7, c7, rfl⟩ := gown_form hrf.oh
    obtain ⟨a8, c8, rfl⟩ := gown_form hrf.op
    have hnl : n ≤ 10000001 := by have := HSL.out; omega
    have hfl : fr ≤ 10000000 := by have := HSL.out; omega
    by_cases hend : n = 1 ∨ fr < s.length
    · obtain ⟨L, r, en, hL10, hle, hen, hcut, hst, hat, hr, hgz⟩ := line_cut s fr hfs
      have hz := hgz n d hend
      rw [hgo] at hz
      obtain ⟨w0, ws, hsp, hLw, hw0, hws⟩ := line_ws L
      have hex : S.extract fr (fr + L.length) = tb L := by rw [HEX.out]; congr 1; unfold cutB; rw [show fr + L.length - fr = L.length by omega]; exact hcut
      have hfS : fr + L.length ≤ S.size := by rw [HSZ.out]; exact hle
      have HZ := Hid.mk' hz
      have HX := Hid.mk' hex
      have HST : Hid (∀ h : fr + L.length < s.length, s[fr + L.length].toNat = 10) := hst
      have HAT : Hid (∀ k (h : k < s.length), fr ≤ k → k < fr + L.length → s[k].toNat ≠ 10) := hat
      have HEN := Hid.mk' hen
      have HR := Hid.mk' hr
      have HLW := Hid.mk' (And.intro hsp (And.intro hLw (And.intro hw0 hws)))
      have HRF := Hid.mk' hrf
      have HPK := Hid.mk' hpk
      have hcond : ((n : Int) == 1) = true ∨ ((n : Int) == 1) = false ∧ (fr : Int) < (S.size : Int) := by
        by_cases h1 : n = 1
        · exact .inl (by simp [h1])
        · exact .inr ⟨beq_no (by omega), by rw [HSZ.out]; omega⟩
      have HND := Hid.mk' hend
      clear hz hex hst hat hen hr hsp hLw hw0 hws hrf hpk hgo hgz hcut hL10 hend
      obtain ⟨Wl, hWl⟩ : ∃ Wl, wr = Wl := ⟨_, rfl⟩
      subst hWl
      have hcb : ((n : Int) == 1) = false → decide ((fr : Int) < (S.size : Int)) = true := fun h => by
        rcases hcond with h1 | ⟨_, h2⟩
        · rw [h1] at h; cases h
        · exact decide_eq_true h2
      go_upto_region 6 with fail
      go_cut [31] from 24 to 223 (fun t wx => t = .bool true ∧ wx = wr)
      case first =>
        cases hb : ((n : Int) == 1)
        · have h2 := hcb hb
          have h3 : (fr : Int) < (S.size : Int) := of_decide_eq_true h2
          go_wp2_with fail
          go_meet
          case rel => exact ⟨rfl, by simp⟩
        · go_wp2_with fail
          go_meet
          case rel => exact ⟨rfl, by simp⟩
      case rest =>
        obtain ⟨rfl, rfl⟩ := hcut
        go_upto_block 2 with fail
        go_cut [11] from 24 to 223 (fun t wx => t = .int .i64 ((fr + L.length : Nat) : Int) ∧ wx = wc)
        case first =>
          go_wp2_with fail
          go_loopw [11] (fun t11 wq => ∃ k : Nat, fr ≤ k ∧ k ≤ fr + L.length ∧ t11 = .int .i64 k ∧ wq = wc) (fun t11 _ => S.size - (intOf t11).toNat)
          case atStart => exact ⟨fr, Nat.le_refl _, by omega, rfl, by simp⟩
          case round =>
            obtain ⟨k, hk1, hk2, rfl, rfl⟩ := hrel
            by_cases hlt : k < S.size
            · have hlt' : k < s.length := by rw [← HSZ.out]; exact hlt
              have hli : (k : Int) < (S.size : Int) := by omega
              by_cases hkv : k < fr + L.length
              · have c1 : ¬ (S[k]'hlt).toNat = 10 := by rw [HK.out k hlt' hlt]; exact HAT.out k hlt' hk1 hkv
                have c2 : ((S[k]'hlt).toNat != 10) = true := by simpa using c1
                have c3 : (((S[k]'hlt).toNat : Int) != 10) = true := by simp only [bne_iff_ne]; omega
                go_wp2_with fail
                go_roundw
                case rel => exact ⟨k + 1, by omega, by omega, by go_num, by simp⟩
                case measure => simp [intOf]; omega
              · obtain rfl : k = fr + L.length := by omega
                have c1 : (S[fr + L.length]'hlt).toNat = 10 := by rw [HK.out _ hlt' hlt]; exact HST.out hlt'
                have c2 : ((S[fr + L.length]'hlt).toNat != 10) = false := by simpa using c1
                have c3 : (((S[fr + L.length]'hlt).toNat : Int) != 10) = false := by simp only [bne_eq_false_iff_eq]; omega
                clear c1
                go_wp2_with fail
                go_meet
                case rel => exact ⟨rfl, by simp⟩
            · obtain rfl : k = fr + L.length := by omega
              go_wp2_with fail
              go_meet
              case rel => exact ⟨rfl, by simp⟩
        case rest =>
          obtain ⟨rfl, rfl⟩ := hcut
          have hRl : ∀ W, Rf w d.ths gs d.hs qs vt vf (.slice a7 d.hs.length c7) (.slice a8 qs.length c8) B C W → w.heap.size ≤ W.heap.size := fun W h => h.bl.size
          have HW1 : Hid (∀ (o : Obj), o = .cells (rowC L 0 0 0) 57 → Rf w d.ths gs d.hs qs vt vf (.slice a7 d.hs.length c7) (.slice a8 qs.length c8) B C (wc.alloc o) ∧ RowA wc.heap.size L 0 0 0 (wc.alloc o)) := fun o ho => by
            subst ho
            exact ⟨HRF.out.stay (Below.one (Below.refl _ _) _), heap_alloc_new _ _⟩
          have hfrS : (fr : Int) ≤ (S.size : Int) := by omega
          have hfr1 : (fr : Int) ≤ ((fr + L.length : Nat) : Int) := by omega
          have hfr2 : ((fr + L.length : Nat) : Int) ≤ (S.size : Int) := by omega
          have hLl : L.length ≤ 10000000 := by omega
          have HFS := Hid.mk' (first_any L (by omega) w0 ws HLW.out.2.1 HLW.out.2.2.1)
          have HOP := Hid.mk' (oper_any w0)
          have hxe := HX.out
          have hRN := HRF.out.bl.size
          generalize hKE : fr + L.length = KE at *
          go_upto_region 12 with fail
          obtain ⟨hrf1, hra1⟩ := HW1.out _ rfl
          have HRF1 := Hid.mk' hrf1
          have HRA1 := Hid.mk' hra1
          clear HW1 hrf1 hra1 HRF hRl hxe HX
          generalize wc.alloc (.cells #[.string (tb L), .int .i64 0, .int .i64 0, .int .i64 0] 57) = W1 at *
          generalize hR : wc.heap.size = R at *
          have hT : (tb w0).size = w0.length := tb_size w0
          have hw0l : w0.length ≤ L.length := by have := congrArg List.length HLW.out.2.1; rw [List.length_append] at this; omega
          have HW2 : Hid (Rf w d.ths gs d.hs qs vt vf (.slice a7 d.hs.length c7) (.slice a8 qs.length c8) B C (W1.setCell ⟨R, 1, none⟩ (.int .i64 ((tb w0).size : Int))) ∧ RowQ R L ⟨w0.length, 0, 0, ws⟩ (W1.setCell ⟨R, 1, none⟩ (.int .i64 ((tb w0).size : Int)))) := by
            rw [hT]
            exact ⟨HRF1.out.only ((OnlyB.refl R W1).set 1 _) HRA1.out (by omega), HRA1.out.set1 w0.length, atW_first HLW.out.2.1 HLW.out.2.2.2⟩
          obtain ⟨k0, k1, k2, k3⟩ := HRA1.out.cells
          have kz := HRA1.out.frozen
          have hT2 : (tb w0).size ≤ 10000000 := by omega
          clear HRF1 HRA1 hT
          generalize hTT : tb w0 = T0 at *
          generalize hTL : tb L = TL at *
          go_wp2_with (go_at_call 14; refine (HFS.out _).mono ?_; rintro e w1 ⟨rfl, rfl⟩)
          refine (HOP.out _).mono ?_
          rintro e W3 ⟨rfl, hb3⟩
          obtain ⟨hrf2, hrq2⟩ := HW2.out
          have HRF := Hid.mk' (hrf2.stay hb3)
          have HRQ : Hid (RowQ R L ⟨w0.length, 0, 0, ws⟩ W3) := ⟨(hb3.block _ (Array.getElem?_eq_some_iff.1 hrq2.1).1).trans hrq2.1, hrq2.2⟩
          clear hrf2 hrq2 hb3 HW2 HOP HFS k0 k1 k2 k3 kz
          generalize hOI : opI (opOf w0) = OI at *
          go_upto_block 4 with fail
          go_cut [7, 8, 15, 16, 17, 18, 19, 20] from 24 to 223 (fun t7 t8 _ _ _ _ _ _ wx => SwS w L n en R d t7 t8 wx)
          case first =>
            rename_i J1 K1 hJ1 hK1
            have hT0 : tb w0 = T0 := hTT
            by_cases h1 : n = 1
            · by_cases hw : w0 = widenB
              · exact sw_widen w L n R en d gs qs vt vf B C a7 c7 a8 c8 w0 ws T0 TL OI W3 hn1 hthl hnl HLW HPK hLl hRN hw0l hTT hTL hOI HRF HRQ _ _ _ _ _ _ _ _ _ _ _ _ _ _ _ _ _ _ _ _ _ _ _ _ _ _ _ _ _ _ _ _ _ _ _ _ _ _ _ _ _ _ _ _ _ _ _ _ _ _ _ _ _ _ _ _ _ _ _ _ _ _ _ _ _ _ _ _ _ _ _ _ _ _ _ _ _ _ _ _ _ _ _ _ _ _ _ _ _ _ _ _ _ _ _ _ _ _ _ _ _ _ _ _ _ _ _ _ _ _ _ _ _ _ _ _ _ _ _ _ _ _ _ _ _ _ _ _ _ _ _ _ _ _ _ _ _ _ _ _ _ _ _ _ _ _ _ _ _ _ _ _ _ _ _ _ _ _ _ _ _ _ _ _ _ _ _ _ _ _ _ _ _ _ _ _ _ _ _ _ _ _ _ _ _ _ _ _ _ _ _ _ _ _ _ _ _ _ _ _ _ _ _ _ _ _ _ _ _ _ _ _ _ _ _ _ _ _ _ _ _ _ _ _ _ _ _ _ (Hid.mk' (by intro _ _ dd _ _ h; cases dd <;> exact h)) hJ1 hK1 h1 hw
              · obtain ⟨hd0, hg0, hq0⟩ := HPK.out.n1 h1
                subst h1 hd0 hg0 hq0
                have hgz : goZ (spl 10 s) 1 dr0 = .error (5, 1, 0) := by
                  rw [HZ.out, bad_line HLW.out.1 en (z := 5) (by unfold bgZ; rw [if_neg (fun h => hw h.2), if_neg (fun h => h.1 rfl), if_pos (by omega)]) (by decide)]
                have HF := Hid.mk' (fun W => HE.out 5 1 0 W hgz (by decide))
                have hs1 : (T0.toList == [119, 105, 100, 101, 110]) = false := by have := str_ne hw; rw [hT0] at this; exact this
                have hs2 : (T0.toList != [119, 105, 100, 101, 110]) = true := by unfold bne; rw [hs1]; rfl
                clear hgz hw
                have hzb := HRF.out.zb
                have z0 := cell_of_obj hzb (j := 0) (v := .slice none 0 0) rfl
                have z1 := cell_of_obj hzb (j := 1) (v := .slice none 0 0) rfl
                have zf := fun j => Lib.frozen_of_heap hzb j
                have HFB : Hid (∀ a b, Below w.heap.size w ((W3.setCell ⟨w.heap.size, 0, none⟩ a).setCell ⟨w.heap.size, 1, none⟩ b)) := fun a b => (HRF.out.bl.setCell (Nat.le_refl _) _).setCell (Nat.le_refl _) _
                clear hzb HZ
                go_wp2_with fail
                exact bodyPost_ret (v := .tuple #[.agg #[.slice none 0 0, .slice none 0 0], .int .i64 5, .int .i64 1, .int .i64 0]) (by simp [results, Tryz.results5, go_sem, *]) rfl (HF.out _ (HFB.out _ _))
            · have q1 : ((n : Int) == 1) = false := beq_no (by omega)
              by_cases hf : w0 = funcB
              · exact sw_func w L n R en d gs qs vt vf B C a7 c7 a8 c8 w0 ws T0 TL OI W3 hn1 hthl hnl HLW HPK hLl hRN hw0l hTT hTL hOI HRF HRQ _ _ _ _ _ _ _ _ _ _ _ _ _ _ _ _ _ _ _ _ _ _ _ _ _ _ _ _ _ _ _ _ _ _ _ _ _ _ _ _ _ _ _ _ _ _ _ _ _ _ _ _ _ _ _ _ _ _ _ _ _ _ _ _ _ _ _ _ _ _ _ _ _ _ _ _ _ _ _ _ _ _ _ _ _ _ _ _ _ _ _ _ _ _ _ _ _ _ _ _ _ _ _ _ _ _ _ _ _ _ _ _ _ _ _ _ _ _ _ _ _ _ _ _ _ _ _ _ _ _ _ _ _ _ _ _ _ _ _ _ _ _ _ _ _ _ _ _ _ _ _ _ _ _ _ _ _ _ _ _ _ _ _ _ _ _ _ _ _ _ _ _ _ _ _ _ _ _ _ _ _ _ _ _ _ _ _ _ _ _ _ _ _ _ _ _ _ _ _ _ _ _ _ _ _ _ _ _ _ _ _ _ _ _ _ _ _ _ _ _ _ _ _ _ _ _ _ _ (Hid.mk' (by intro _ _ dd _ _ h; cases dd <;> exact h)) hJ1 hK1 h1 hf
              · have hs1 : (T0.toList == [102, 117, 110, 99]) = false := by have := str_ne hf; rw [hT0] at this; exact this
                have hs2 : (T0.toList != [102, 117, 110, 99]) = true := by unfold bne; rw [hs1]; rfl
                by_cases h2 : n = 2
                · have hgz : goZ (spl 10 s) 1 dr0 = .error (5, n, 0) := by
                    rw [HZ.out, bad_line HLW.out.1 en (z := 5) (by unfold bgZ; rw [if_neg (fun h => h1 h.1), if_neg (fun h => hf h.2), if_pos (by omega)]) (by decide)]
                  have HF := Hid.mk' (fun W => HE.out 5 n 0 W hgz (by decide))
                  have q2 : ((n : Int) == 2) = true := by simp [h2]
                  clear hgz hf h1 h2
                  have hzb := HRF.out.zb
                  have z0 := cell_of_obj hzb (j := 0) (v := .slice none 0 0) rfl
                  have z1 := cell_of_obj hzb (j := 1) (v := .slice none 0 0) rfl
                  have zf := fun j => Lib.frozen_of_heap hzb j
                  have HFB : Hid (∀ a b, Below w.heap.size w ((W3.setCell ⟨w.heap.size, 0, none⟩ a).setCell ⟨w.heap.size, 1, none⟩ b)) := fun a b => (HRF.out.bl.setCell (Nat.le_refl _) _).setCell (Nat.le_refl _) _
                  clear hzb HZ
                  go_wp2_with fail
                  exact bodyPost_ret (v := .tuple #[.agg #[.slice none 0 0, .slice none 0 0], .int .i64 5, .int .i64 n, .int .i64 0]) (by simp [results, Tryz.results5, go_sem, *]) rfl (HF.out _ (HFB.out _ _))
                · have q2 : ((n : Int) == 2) = false := beq_no (by omega)
                  cases hop : opOf w0 with
                  | none =>
                    have hgz : goZ (spl 10 s) 1 dr0 = .error (60, n, 0) := by
                      rw [HZ.out, bad_line HLW.out.1 en (z := 60) (by unfold bgZ; rw [if_neg (fun h => h1 h.1), if_neg (fun h => hf h.2), if_neg (by omega), hop]) (by decide)]
                    have HF := Hid.mk' (fun W => HE.out 60 n 0 W hgz (by decide))
                    clear hgz hf h1 h2
                    have hoi : OI = -1 := by rw [← hOI, hop]; rfl
                    clear hOI
                    subst hoi
                    have hzb := HRF.out.zb
                    have z0 := cell_of_obj hzb (j := 0) (v := .slice none 0 0) rfl
                    have z1 := cell_of_obj hzb (j := 1) (v := .slice none 0 0) rfl
                    have zf := fun j => Lib.frozen_of_heap hzb j
                    have HFB : Hid (∀ a b, Below w.heap.size w ((W3.setCell ⟨w.heap.size, 0, none⟩ a).setCell ⟨w.heap.size, 1, none⟩ b)) := fun a b => (HRF.out.bl.setCell (Nat.le_refl _) _).setCell (Nat.le_refl _) _
                    clear hzb HZ
                    go_wp2_with fail
                    exact bodyPost_ret (v := .tuple #[.agg #[.slice none 0 0, .slice none 0 0], .int .i64 60, .int .i64 n, .int .i64 0]) (by simp [results, Tryz.results5, go_sem, *]) rfl (HF.out _ (HFB.out _ _))
                  | some k =>
                    exact sw_ins w L n R en d gs qs vt vf B C a7 c7 a8 c8 w0 ws T0 OI W3 hn1 hthl hnl HLW HPK hLl hRN hTT hOI HRF HRQ _ _ _ _ _ _ _ _ _ _ _ _ _ _ _ _ _ _ _ _ _ _ _ _ _ _ _ _ _ _ _ _ _ _ _ _ _ _ _ _ _ _ _ _ _ _ _ _ _ _ _ _ _ _ _ _ _ _ _ _ _ _ _ _ _ _ _ _ _ _ _ _ _ _ _ _ _ _ _ _ _ _ _ _ _ _ _ _ _ _ _ _ _ _ _ _ _ _ _ _ _ _ _ _ _ _ _ _ _ _ _ _ _ _ _ _ _ _ _ _ _ _ _ _ _ _ _ _ _ _ _ _ _ _ _ _ _ _ _ _ _ _ _ _ _ _ _ _ _ _ _ _ _ _ _ _ _ _ _ _ _ _ _ _ _ _ _ _ _ _ _ _ _ _ _ _ _ _ _ _ _ _ _ _ _ _ _ _ _ _ _ _ _ _ _ _ _ _ _ _ _ _ _ _ _ _ _ _ _ _ _ _ _ _ _ _ _ _ _ _ _ _ _ _ _ _ _ _ (Hid.mk' (by intro _ _ dd _ _ h; cases dd <;> exact h)) hJ1 hK1 h1 hf h2 k hop
          case rest =>
            obtain ⟨q, d', gs', qs', vt', vf', B', C', hrf', hq', hln⟩ := hcut
            have hb1 : decide ((KE : Int) < (S.size : Int)) = en := by rw [HEN.out, HSZ.out]; exact decide_eq_decide.2 (by omega)
            have hb2 : decide (KE < S.size) = en := by rw [HEN.out, HSZ.out]
            have HD := Hid.mk' (rdone_any R L (by omega) q en _ hq')
            have HRF' := Hid.mk' hrf'
            have HRA' := Hid.mk' hq'.1
            have HLN := Hid.mk' hln
            clear hrf' hq' hln HRF HRQ
            go_wp2_with fail
            refine HD.out.mono ?_
            rintro e W4 ⟨rfl, hq4, ho4⟩
            have HRF4 := Hid.mk' (HRF'.out.only ho4 HRA'.out (by omega))
            obtain ⟨k0, k1, k2, k3⟩ := hq4.1.cells
            have HLN' := Hid.mk' HLN.out
            unfold LnR at HLN'
            clear HD HRF' HRA' HLN ho4
            have HQ4 := Hid.mk' hq4
            clear hq4
            generalize q.done L.length en = qd at *
            rcases HLN'.out with ⟨hne, hlz⟩ | ⟨he0, hent, r', hlz, hd', hpk', hth'⟩
            · have hgz : goZ (spl 10 s) 1 dr0 = .error (qd.e, n, qd.p) := by rw [HZ.out, hlz]
              have HF := Hid.mk' (fun W => HE.out qd.e n qd.p W hgz hne)
              have hnq : (qd.e != 0) = true := bne_of hne
              have k2' : W4.drew.cell? ⟨R, 2, none⟩ = some (.int .i64 qd.e) := k2
              have k3' : W4.drew.cell? ⟨R, 3, none⟩ = some (.int .i64 qd.p) := k3
              have hzb := HRF4.out.zb
              have z0 := cell_of_obj hzb (j := 0) (v := .slice none 0 0) rfl
              have z1 := cell_of_obj hzb (j := 1) (v := .slice none 0 0) rfl
              have zf := fun j => Lib.frozen_of_heap hzb j
              have z0' : W4.drew.cell? ⟨w.heap.size, 0, none⟩ = some (.slice none 0 0) := z0
              have z1' : W4.drew.cell? ⟨w.heap.size, 1, none⟩ = some (.slice none 0 0) := z1
              have zf' : ∀ j, W4.drew.frozen? ⟨w.heap.size, j, none⟩ = false := zf
              have hRne : ¬ R = w.heap.size := fun e => by have h1 := HQ4.out.1; unfold RowA at h1; rw [e, hzb] at h1; injection h1 with h1; injection h1 with _ e2 _; cases e2
              have hRne' : ¬ w.heap.size = R := fun e => hRne e.symm
              have HFB : Hid (∀ a b, Below w.heap.size w ((W4.drew.setCell ⟨w.heap.size, 0, none⟩ a).setCell ⟨w.heap.size, 1, none⟩ b)) := fun a b => ((Below.drew HRF4.out.bl).setCell (Nat.le_refl _) _).setCell (Nat.le_refl _) _
              generalize qd.e = E0 at *
              generalize qd.p = P0 at *
              clear hlz hgz HLN' HZ hne hzb HQ4
              go_wp2_with fail
              go_region
              all_goals go_wp2_with fail
              all_goals exact bodyPost_ret (v := .tuple #[.agg #[.slice none 0 0, .slice none 0 0], .int .i64 E0, .int .i64 n, .int .i64 P0]) (by simp [results, Tryz.results5, go_sem, *]) rfl (HF.out _ (HFB.out _ _))
            · have hke2 : KE < s.length := by rw [HEN.out] at hent; have := of_decide_eq_true hent; omega
              have hgz : goZ (spl 10 (s.drop (KE + 1))) (n + 1) d' = goZ (spl 10 s) 1 dr0 := by
                rw [HZ.out, hlz]
                show _ = goZ (spl 10 r) (n + 1) (addZ d n r')
                rw [hd', HR.out hent]
              have HGZ := Hid.mk' hgz
              have HPK' := Hid.mk' hpk'
              have HKE := Hid.mk' hke2
              rw [he0] at k2
              clear hlz hgz HLN' HZ hd' hpk' he0 hke2 HQ4
              go_wp2_with fail
              go_roundw
              case rel => exact ⟨KE + 1, n + 1, by go_num, by go_num, d', gs', qs', vt', vf', B', C', by omega, by omega, HKE.out, hth', HRF4.out, HPK'.out, HGZ.out⟩
              case measure => simp [intOf]; have := HKE.out; omega
    ·
      have hne : n ≠ 1 := fun h => hend (.inl h)
      have hfe : fr = s.length := by have : ¬ fr < s.length := fun h => hend (.inr h); omega
      have hok : goZ (spl 10 s) 1 dr0 = .ok d := by
        rw [← hgo, hfe, List.drop_length]
        show goZ [[]] n d = _
        rw [goZ, if_pos ⟨hne, rfl⟩]
      obtain ⟨ta, tc, rfl⟩ := gown_form hrf.ot
      obtain ⟨fa, fc, rfl⟩ := gown_form hrf.of
      have hmo := hrf.mo hpk hnl hthl
      have HLK := Hid.mk' (looked_any hrf hpk hmo)
      have hq1 : ((n : Int) == 1) = false := beq_no (by omega)
      have hq2 : ¬ (fr : Int) < (S.size : Int) := by rw [HSZ.out]; omega
      have hq3 : decide ((fr : Int) < (S.size : Int)) = false := decide_eq_false hq2
      have hq4 : decide (fr < S.size) = false := decide_eq_false (by omega)
      have x0 := cell_of_obj hrf.mb (j := 0) (v := .slice ta d.ths.length tc) rfl
      have x1 := cell_of_obj hrf.mb (j := 1) (v := .slice fa gs.length fc) rfl
      have HOKP : Hid ((mayZ (moD d)).1 = 0 → ∀ W', Below wr.heap.size wr W' → P (.returned (.tuple #[.agg #[.slice ta d.ths.length tc, .slice fa gs.length fc], .int .i64 0, .int .i64 0, .int .i64 0])) ((W'.setCell ⟨w.heap.size, 0, none⟩ (.slice ta d.ths.length tc)).setCell ⟨w.heap.size, 1, none⟩ (.slice fa gs.length fc))) := fun h0 W' hb => by
        rw [← hP]
        have hr' := hrf.stay hb
        exact pap_ok hok hpk h0 (hr'.mo2 hpk hnl hthl _ _) ⟨own_new hr'.ot, own_new hr'.of, fun g hg => ⟨own_new (hr'.og g hg).1.1, own_new (hr'.og g hg).1.2⟩⟩ ((hr'.bl.setCell (Nat.le_refl _) _).setCell (Nat.le_refl _) _)
      have HNOP : Hid ((mayZ (moD d)).1 ≠ 0 → ∀ W', Below wr.heap.size wr W' → P (.returned (.tuple #[.agg #[.slice none 0 0, .slice none 0 0], .int .i64 (mayZ (moD d)).1, .int .i64 (fltN d (mayZ (moD d))), .int .i64 0])) ((W'.setCell ⟨w.heap.size, 0, none⟩ (.slice none 0 0)).setCell ⟨w.heap.size, 1, none⟩ (.slice none 0 0))) := fun h0 W' hb => by
        rw [← hP]
        exact pap_flt hok h0 ((((Below.on hrf.bl hb).setCell (Nat.le_refl _) _).setCell (Nat.le_refl _) _))
      have HZB := Hid.mk' hrf.zb
      clear hrf hpk hgo hok hmo hend hfe hne
      by_cases h0 : (mayZ (moD d)).1 = 0
      · have HF := Hid.mk' (HOKP.out h0)
        go_wp2_with fail
        refine HLK.out.mono ?_
        rintro e W1 ⟨hb, he, _⟩
        have hee := he h0
        subst hee
        have hzb := (hb.block _ (Array.getElem?_eq_some_iff.1 HZB.out).1).trans HZB.out
        have z0 := cell_of_obj hzb (j := 0) (v := .slice none 0 0) rfl
        have z1 := cell_of_obj hzb (j := 1) (v := .slice none 0 0) rfl
        have zf := fun j => Lib.frozen_of_heap hzb j
        have HPF := Hid.mk' (HF.out W1 hb)
        unfold Mo.val
        simp only
        clear he h0 HF HOKP HNOP HLK hb hzb HZB x0 x1
        go_wp2_with fail
        exact bodyPost_ret (v := .tuple #[.agg #[.slice ta d.ths.length tc, .slice fa gs.length fc], .int .i64 0, .int .i64 0, .int .i64 0]) (by simp [results, Tryz.results5, go_sem, *]) rfl HPF.out
      · have HF := Hid.mk' (HNOP.out h0)
        go_wp2_with fail
        refine HLK.out.mono ?_
        rintro e W1 ⟨hb, _, he⟩
        have hee := he h0
        subst hee
        have hzb := (hb.block _ (Array.getElem?_eq_some_iff.1 HZB.out).1).trans HZB.out
        have z0 := cell_of_obj hzb (j := 0) (v := .slice none 0 0) rfl
        have z1 := cell_of_obj hzb (j := 1) (v := .slice none 0 0) rfl
        have zf := fun j => Lib.frozen_of_heap hzb j
        have HPF := Hid.mk' (HF.out W1 hb)
        unfold mo0 Mo.val
        simp only [List.length_nil]
        generalize (mayZ (moD d)).1 = E0 at *
        generalize fltN d (mayZ (moD d)) = E1 at *
        clear he h0 HF HOKP HNOP HLK hb hzb HZB x0 x1
        go_wp2_with fail
        exact bodyPost_ret (v := .tuple #[.agg #[.slice none 0 0, .slice none 0 0], .int .i64 E0, .int .i64 E1, .int .i64 0]) (by simp [results, Tryz.results5, go_sem, *]) rfl HPF.out
end Go.Proofs.YtboidkmnkicoeaaGreatDoor
