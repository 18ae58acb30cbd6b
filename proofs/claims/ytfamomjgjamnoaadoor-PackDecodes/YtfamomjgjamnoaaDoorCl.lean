/- code.May. -/
import Derived.Test.YtfamomjgjamnoaaDoorCk
namespace Go.Proofs.YtfamomjgjamnoaaDoor
open Go.RowKit Go.Sort

theorem mayZ_whole {m : Mo} (h : (wholeZ m).1 ≠ 0) : mayZ m = wholeZ m := by unfold mayZ; rw [if_pos h]
theorem mayZ_head {m : Mo} (h : (wholeZ m).1 = 0) (h2 : (headsN m m.funcs 0).1 ≠ 0) : mayZ m = headsN m m.funcs 0 := by unfold mayZ; rw [if_neg (by simp [h]), if_pos h2]
theorem mayZ_code {m : Mo} (h : (wholeZ m).1 = 0) (h2 : (headsN m m.funcs 0).1 = 0) : mayZ m = codesN m m.funcs 0 := by unfold mayZ; rw [if_neg (by simp [h]), if_neg (by simp [h2])]
/-- Where no head is wrong every function has code. -/
theorem heads_ok {m : Mo} : ∀ (l : List Fn) (i : Nat), (headsN m l i).1 = 0 → ∀ (j : Nat) (f : Fn), l[j]? = some f → (headZ m f (i + j)).1 = 0
  | [], _, _, _, _, h => by simp at h
  | g :: r, i, h, j, f, hf => by
    rw [headsN] at h
    split at h
    · rename_i hne; exact absurd h hne
    · rename_i he
      cases j with
      | zero => simp at hf; subst hf; simpa using he
      | succ j => have := heads_ok r (i + 1) h j f (by simpa using hf); rwa [show i + 1 + j = i + (j + 1) by omega] at this
theorem head_rest {m : Mo} {f : Fn} {k : Nat} (h : (headZ m f k).1 = 0) : idB f.name.data.toList = true ∧ ¬ fndN m.funcs f.name 0 < k ∧ f.params.length ≤ 8 ∧ emptN f.params 0 = none ∧ 1 ≤ f.regs ∧ f.regs ≤ 64 ∧ f.params.length ≤ f.regs ∧ 0 ≤ f.words ∧ f.words ≤ 4096 ∧ 1 ≤ f.code.length ∧ f.code.length ≤ 1024 := by
  cases h1 : idB f.name.data.toList with
  | false => rw [headZ_name h1] at h; simp at h
  | true =>
    by_cases h2 : fndN m.funcs f.name 0 < k
    · rw [headZ_twice h1 h2] at h; simp at h
    · by_cases h3 : f.params.length > 8
      · rw [headZ_many h1 h2 h3] at h; simp at h
      · cases h4 : emptN f.params 0 with
        | some i => rw [headZ_empty h1 h2 h3 h4] at h; simp at h
        | none =>
          rw [headZ_rest h1 h2 h3 h4] at h
          unfold restZ at h
          split at h
          · simp at h
          · split at h
            · simp at h
            · split at h
              · simp at h
              · exact ⟨rfl, h2, by omega, rfl, by omega, by omega, by omega, by omega, by omega, by omega, by omega⟩

set_option maxRecDepth 100000 in
set_option maxHeartbeats 4000000 in
theorem may_any (m : Mo) (w : World) (ht : Tab w) (hm : m.In w) :
    Calls Tryd.prog 16 #[m.val] w fun e w' => e = .returned (fltV (mayZ m)) ∧ Below w.heap.size w w' := by
  have hb := Below.one (Below.one (Below.refl _ w) (oM m)) (.cells #[.int .i64 0, .int .i64 0, .int .i64 0] 30)
  have b0 := cell_kept_below (new_cell w #[.slice m.ta m.ths.length m.tc, .slice m.fa m.funcs.length m.fc] 25 0 (.slice m.ta m.ths.length m.tc) rfl) (Below.one (Below.refl _ _) (.cells #[.int .i64 0, .int .i64 0, .int .i64 0] 30))
  have b1 := cell_kept_below (new_cell w #[.slice m.ta m.ths.length m.tc, .slice m.fa m.funcs.length m.fc] 25 1 (.slice m.fa m.funcs.length m.fc) rfl) (Below.one (Below.refl _ _) (.cells #[.int .i64 0, .int .i64 0, .int .i64 0] 30))
  have F := FAt.new (w.alloc (oM m)) (0, 0, 0)
  rw [World.size_alloc] at F
  have hc := hm.2.2.1.1
  have HW : Hid (∀ w', Below w.heap.size w w' → Calls Tryd.prog 26 #[.agg #[.slice m.ta m.ths.length m.tc, .slice m.fa m.funcs.length m.fc]] w' fun e w'' => e = .returned (fltV (wholeZ m)) ∧ Below w'.heap.size w' w'') := fun w' hb => checkWhole_any m w' (hm.1.stay hb) hm.2.2.1.1
  have HH : Hid (∀ (k : Nat) (f : Fn) (w' : World), m.funcs[k]? = some f → Below w.heap.size w w' → Calls Tryd.prog 27 #[.agg #[.slice m.ta m.ths.length m.tc, .slice m.fa m.funcs.length m.fc], .int .i64 k] w' fun e w'' => e = .returned (.tuple #[.int .i64 (headZ m f k).1, .int .i64 (headZ m f k).2]) ∧ Below w'.heap.size w' w'') := fun k f w' h hb => checkHead_any m k w' (hm.stay hb) f h
  have HC : Hid (∀ (k : Nat) (f : Fn) (w' : World), m.funcs[k]? = some f → 0 < f.code.length → Below w.heap.size w w' → Calls Tryd.prog 28 #[.agg #[.slice m.ta m.ths.length m.tc, .slice m.fa m.funcs.length m.fc], .int .i64 k] w' fun e w'' => e = .returned (.tuple #[.int .i64 (codeZ m f).1, .int .i64 (codeZ m f).2]) ∧ Below w'.heap.size w' w'') := fun k f w' h hl hb => checkCode_any m k w' (ht.stay hb) (hm.stay hb) f h hl
  have HDH : Hid (∀ (j : Nat) (f : Fn), m.funcs[j]? = some f → headsN m (m.funcs.drop j) j = if (headZ m f j).1 ≠ 0 then ((headZ m f j).1, (j : Int), (headZ m f j).2) else headsN m (m.funcs.drop (j + 1)) (j + 1)) := fun j x h => by
    obtain ⟨h1, h2⟩ := List.getElem?_eq_some_iff.1 h
    rw [headsN_drop h1, h2]
  have HDC : Hid (∀ (j : Nat) (f : Fn), m.funcs[j]? = some f → codesN m (m.funcs.drop j) j = if (codeZ m f).1 ≠ 0 then ((codeZ m f).1, (j : Int), (codeZ m f).2) else codesN m (m.funcs.drop (j + 1)) (j + 1)) := fun j x h => by
    obtain ⟨h1, h2⟩ := List.getElem?_eq_some_iff.1 h
    rw [codesN_drop h1, h2]
  have HEH : Hid (∀ j, ¬ j < m.funcs.length → headsN m (m.funcs.drop j) j = (0, 0, 0)) := fun j h => by rw [List.drop_eq_nil_of_le (by omega)]; rfl
  have HEC : Hid (∀ j, ¬ j < m.funcs.length → codesN m (m.funcs.drop j) j = (0, 0, 0)) := fun j h => by rw [List.drop_eq_nil_of_le (by omega)]; rfl
  have HK : Hid ((headsN m m.funcs 0).1 = 0 → ∀ (j : Nat) (f : Fn), m.funcs[j]? = some f → 0 < f.code.length) := fun h j f hf => (head_rest (heads_ok m.funcs 0 h j f hf)).2.2.2.2.2.2.2.2.2.1
  have M1 := Hid.mk' (mayZ_whole (m := m))
  have M2 := Hid.mk' (mayZ_head (m := m))
  have M3 := Hid.mk' (mayZ_code (m := m))
  clear ht hm
  generalize mayZ m = Z at *
  generalize wholeZ m = WZ at *
  generalize headZ m = HZ at *
  generalize codeZ m = CZ at *
  generalize headsN m = HN at *
  generalize codesN m = CN at *
  obtain ⟨z0, z1, z2⟩ := Z
  obtain ⟨y0, y1, y2⟩ := WZ
  obtain ⟨ta, tc, ths, fa, fc, funcs⟩ := m
  unfold Mo.val fltV
  unfold fltV at HW
  unfold oM at *
  simp only at *
  generalize hW : (w.alloc (.cells #[.slice ta ths.length tc, .slice fa funcs.length fc] 25)).alloc (.cells #[.int .i64 0, .int .i64 0, .int .i64 0] 30) = W at *
  have HWW := Hid.mk' hW
  clear hW
  by_cases h0 : y0 = 0
  · subst h0
    replace M2 : Hid ((HN funcs 0).1 ≠ 0 → (z0, z1, z2) = HN funcs 0) := fun h => M2.out rfl h
    replace M3 : Hid ((HN funcs 0).1 = 0 → (z0, z1, z2) = CN funcs 0) := fun h => M3.out rfl h
    clear M1
    go_enter Tryd.func16, Tryd.ntmps16
    go_wp2_with (go_at_call 26; rw [HWW.out]; refine (HW.out _ hb).mono ?_; rintro e w1 ⟨rfl, hb1⟩; replace b0 := cell_kept_below b0 (Below.one hb1 (.cells #[.int .i64 0, .int .i64 y1, .int .i64 y2] 30)); replace b1 := cell_kept_below b1 (Below.one hb1 (.cells #[.int .i64 0, .int .i64 y1, .int .i64 y2] 30)))
    replace F := F.stay (Below.one hb1 (.cells #[.int .i64 0, .int .i64 y1, .int .i64 y2] 30))
    replace hb := Below.one (Below.on hb hb1) (.cells #[.int .i64 0, .int .i64 y1, .int .i64 y2] 30)
    clear HWW hb1
    generalize w1.alloc (.cells #[.int .i64 0, .int .i64 y1, .int .i64 y2] 30) = V at *
    go_loopw [19] (fun t19 wr => ∃ (j : Nat), j ≤ funcs.length ∧ t19 = .int .i64 j ∧ HN (funcs.drop j) j = HN funcs 0 ∧ Below V.heap.size V wr) (fun t19 _ => funcs.length - (intOf t19).toNat)
    case atStart => exact ⟨0, Nat.zero_le _, rfl, rfl, Below.refl _ _⟩
    case round =>
      obtain ⟨j, hj, rfl, hcnt, hbr⟩ := hrel
      have HCN := Hid.mk' hcnt
      clear hcnt
      have hbw := Below.on hb hbr
      have e0 := cell_kept_below b0 hbr
      have e1 := cell_kept_below b1 hbr
      by_cases hlt : j < funcs.length
      · have hf : funcs[j]? = some funcs[j] := by simp [hlt]
        have HCx := Hid.mk' (HH.out j funcs[j] wr hf hbw)
        have HDj := Hid.mk' (HDH.out j funcs[j] hf)
        generalize funcs[j] = f at *
        generalize HZ f j = Y at *
        obtain ⟨q0, q1⟩ := Y
        simp only at HCx HDj
        clear hf
        by_cases hI : q0 = 0
        · subst hI
          go_wp2_with (go_at_call 27; refine HCx.out.mono ?_; rintro e w4 ⟨rfl, hb4⟩)
          go_roundw
          case rel => exact ⟨j + 1, by omega, by go_num, by rw [← HCN.out, HDj.out]; simp, Below.on hbr hb4⟩
          case measure => simp [intOf]; omega
        · have hI' := bne_of hI
          have hn : HN funcs 0 = (q0, (j : Int), q1) := by rw [← HCN.out, HDj.out, if_pos hI]
          have hz := M2.out (by rw [hn]; exact hI)
          rw [hn] at hz
          simp only [Prod.mk.injEq] at hz
          obtain ⟨rfl, rfl, rfl⟩ := hz
          clear hn hI
          have hb5 := hbw
          go_wp2_with (go_at_call 27; refine HCx.out.mono ?_; rintro e w4 ⟨rfl, hb4⟩; have F4 := F.stay (Below.on hbr hb4); have F0 := F4.c0; have F1 := F4.c1; have F2 := F4.c2; have G0 := F4.f0 0; have G1 := F4.f0 1; have G2 := F4.f0 2)
          exact bodyPost_ret (v := .agg #[.int .i64 z0, .int .i64 j, .int .i64 z2]) (by simp [results, Tryd.results16, go_sem, *]) rfl ⟨rfl, (((Below.on hbw hb4).setCell (by simp) _).setCell (by simp) _).setCell (by simp) _⟩
      · have hn : HN funcs 0 = (0, 0, 0) := by rw [← HCN.out, HEH.out j hlt]
        replace M3 : Hid ((z0, z1, z2) = CN funcs 0) := M3.out (by rw [hn])
        replace HK : Hid (∀ (j : Nat) (f : Fn), funcs[j]? = some f → 0 < f.code.length) := HK.out (by rw [hn])
        have hli : ¬ ((j : Int) < (funcs.length : Int)) := by omega
        have FW := F.stay hbr
        clear hn M2 HH HDH HEH HCN F hlt
        go_wp2_with fail
        obtain ⟨Wo, h⟩ : ∃ Wo, Wo = wr := ⟨_, rfl⟩
        subst h
        go_loopw [38] (fun t38 wr => ∃ (i : Nat), i ≤ funcs.length ∧ t38 = .int .i64 i ∧ CN (funcs.drop i) i = CN funcs 0 ∧ Below Wo.heap.size Wo wr) (fun t38 _ => funcs.length - (intOf t38).toNat)
        case atStart => exact ⟨0, Nat.zero_le _, rfl, rfl, Below.refl _ _⟩
        case round =>
          obtain ⟨i, hi, rfl, hcnt, hbq⟩ := hrel
          have HCN := Hid.mk' hcnt
          clear hcnt
          have hbv := Below.on hbw hbq
          have d0 := cell_kept_below e0 hbq
          have d1 := cell_kept_below e1 hbq
          by_cases hlt : i < funcs.length
          · have hf : funcs[i]? = some funcs[i] := by simp [hlt]
            have HCx := Hid.mk' (HC.out i funcs[i] wr hf (HK.out i _ hf) hbv)
            have HDj := Hid.mk' (HDC.out i funcs[i] hf)
            generalize funcs[i] = f at *
            generalize CZ f = Y at *
            obtain ⟨q0, q1⟩ := Y
            simp only at HCx HDj
            clear hf
            by_cases hI : q0 = 0
            · subst hI
              go_wp2_with (go_at_call 28; refine HCx.out.mono ?_; rintro e w4 ⟨rfl, hb4⟩)
              go_roundw
              case rel => exact ⟨i + 1, by omega, by go_num, by rw [← HCN.out, HDj.out]; simp, Below.on hbq hb4⟩
              case measure => simp [intOf]; omega
            · have hI' := bne_of hI
              have hz := M3.out
              rw [← HCN.out, HDj.out, if_pos hI] at hz
              simp only [Prod.mk.injEq] at hz
              obtain ⟨rfl, rfl, rfl⟩ := hz
              clear hI
              go_wp2_with (go_at_call 28; refine HCx.out.mono ?_; rintro e w4 ⟨rfl, hb4⟩; have F4 := FW.stay (Below.on hbq hb4); have F0 := F4.c0; have F1 := F4.c1; have F2 := F4.c2; have G0 := F4.f0 0; have G1 := F4.f0 1; have G2 := F4.f0 2)
              exact bodyPost_ret (v := .agg #[.int .i64 z0, .int .i64 i, .int .i64 z2]) (by simp [results, Tryd.results16, go_sem, *]) rfl ⟨rfl, (((Below.on hbv hb4).setCell (by simp) _).setCell (by simp) _).setCell (by simp) _⟩
          · have hz := M3.out
            rw [← HCN.out, HEC.out i hlt] at hz
            simp only [Prod.mk.injEq] at hz
            obtain ⟨rfl, rfl, rfl⟩ := hz
            have hli : ¬ ((i : Int) < (funcs.length : Int)) := by omega
            have F4 := FW.stay hbq
            have F0 := F4.c0; have F1 := F4.c1; have F2 := F4.c2; have G0 := F4.f0 0; have G1 := F4.f0 1; have G2 := F4.f0 2
            go_wp2_with fail
            exact bodyPost_ret (v := .agg #[.int .i64 0, .int .i64 0, .int .i64 0]) (by simp [results, Tryd.results16, go_sem, *]) rfl ⟨rfl, ((hbv.setCell (by simp) _).setCell (by simp) _).setCell (by simp) _⟩
  · have hz := M1.out h0
    simp only [Prod.mk.injEq] at hz
    obtain ⟨rfl, rfl, rfl⟩ := hz
    have hI' := bne_of h0
    clear h0 M1 M2 M3
    go_enter Tryd.func16, Tryd.ntmps16
    go_wp2_with (go_at_call 26; rw [HWW.out]; refine (HW.out _ hb).mono ?_; rintro e w1 ⟨rfl, hb1⟩; have F4 := F.stay (Below.one hb1 (.cells #[.int .i64 z0, .int .i64 z1, .int .i64 z2] 30)); have F0 := F4.c0; have F1 := F4.c1; have F2 := F4.c2; have G0 := F4.f0 0; have G1 := F4.f0 1; have G2 := F4.f0 2)
    exact bodyPost_ret (v := .agg #[.int .i64 z0, .int .i64 z1, .int .i64 z2]) (by simp [results, Tryd.results16, go_sem, *]) rfl ⟨rfl, (((Below.one (Below.on hb hb1) _).setCell (by simp) _).setCell (by simp) _).setCell (by simp) _⟩
end Go.Proofs.YtfamomjgjamnoaaDoor
