/- code.May. -/
import Derived.Test.YtlkoigdnakmdlaaDoorPart2
import Derived.Test.YtlkoigdnakmdlaaDoorPart1
namespace Go.Proofs.YtlkoigdnakmdlaaDoor
open Go.RowKit Go.Sort

theorem mayZ_whole {m : Mo} (h : (wholeZ m).1 ≠ 0) : mayZ m = wholeZ m := by unfold mayZ; rw [if_pos h]
theorem mayZ_head {m : Mo} (h : (wholeZ m).1 = 0) (h2 : (headsN m m.funcs 0).1 ≠ 0) : mayZ m = headsN m m.funcs 0 := by unfold mayZ; rw [if_neg (by simp [h]), if_pos h2]
theorem mayZ_code {m : Mo} (h : (wholeZ m).1 = 0) (h2 : (headsN m m.funcs 0).1 = 0) : mayZ m = codesN m m.funcs 0 := by unfold mayZ; rw [if_neg (by simp [h]), if_neg (by simp [h2])]
/-- Where no head is wrong every function has code. -/
theorem heads_ok {m : Mo} : ∀ (l : List Fn) (i : Nat), (headsN m l i).1 = 0 → ∀ (j : Nat) (f : Fn), l[j]? = some f → (headZ m f (i + j)).1 = 0
  | [], _, _, _, _, h => by simp at h
  | g :: r, i, h, j, f, hf => by
    rw [headsN] at h
    split at h
    · rename_i hne; exact absurd h hne
    · rename_i he
      cases j with
      | zero => simp at hf; subst hf; simpa using he
      | succ j => have := heads_ok r (i + 1) h j f (by simpa using hf); rwa [show i + 1 + j = i + (j + 1) by omega] at this
theorem head_rest {m : Mo} {f : Fn} {k : Nat} (h : (headZ m f k).1 = 0) : idB f.name.data.toList = true ∧ ¬ fndN m.funcs f.name 0 < k ∧ f.params.length ≤ 8 ∧ emptN f.params 0 = none ∧ 1 ≤ f.regs ∧ f.regs ≤ 64 ∧ f.params.length ≤ f.regs ∧ 0 ≤ f.words ∧ f.words ≤ 4096 ∧ 1 ≤ f.code.length ∧ f.code.length ≤ 1024 := by
  cases h1 : idB f.name.data.toList with
  | false => rw [headZ_name h1] at h; simp at h
  | true =>
    by_cases h2 : fndN m.funcs f.name 0 < k
    · rw [headZ_twice h1 h2] at h; simp at h
    · by_cases h3 : f.params.length > 8
      · rw [headZ_many h1 h2 h3] at h; simp at h
      · cases h4 : emptN f.params 0 with
        | some i => rw [headZ_empty h1 h2 h3 h4] at h; simp at h
        | none =>
          rw [headZ_rest h1 h2 h3 h4] at h
          unfold restZ at h
          split at h
          · simp at h
          · split at h
            · simp at h
            · split at h
              · simp at h
              · exact ⟨rfl, h2, by omega, rfl, by omega, by omega, by omega, by omega, by omega, by omega, by omega⟩

set_option maxRecDepth 100000 in
set_option maxHeartbeats 4000000 in
theorem may_any (m : Mo) (w : World) (ht : Tab w) (hm : m.In w) :
    Calls Tryd.prog 20 #[m.val] w fun e w' => e = .returned (fltV (mayZ m)) ∧ Below w.heap.size w w' := by
  have hb := Below.one (Below.one (Below.refl _ w) (oM m)) (.cells #[.int .i64 0, .int .i64 0, .int .i64 0] 37)
  have b0 := cell_kept_below (new_cell w #[.slice m.ta m.ths.length m.tc, .slice m.fa m.funcs.length m.fc] 33 0 (.slice m.ta m.ths.length m.tc) rfl) (Below.one (Below.refl _ _) (.cells #[.int .i64 0, .int .i64 0, .int .i64 0] 37))
  have b1 := cell_kept_below (new_cell w #[.slice m.ta m.ths.length m.tc, .slice m.fa m.funcs.length m.fc] 33 1 (.slice m.fa m.funcs.length m.fc) rfl) (Below.one (Below.refl _ _) (.cells #[.int .i64 0, .int .i64 0, .int .i64 0] 37))
  have F := FAt.new (w.alloc (oM m)) (0, 0, 0)
  rw [World.size_alloc] at F
  have hc := hm.2.2.1.1
  have HW : Hid (∀ w', Below w.heap.size w w' → Calls Tryd.prog 32 #[.agg #[.slice m.ta m.ths.length m.tc, .slice m.fa m.funcs.length m.fc]] w' fun e w'' => e = .returned (fltV (wholeZ m)) ∧ Below w'.heap.size w' w'') := fun w' hb => checkWhole_any m w' (hm.1.stay hb) hm.2.2.1.1
  have HH : Hid (∀ (k : Nat) (f : Fn) (w' : World), m.funcs[k]? = some f → Below w.heap.size w w' → Calls Tryd.prog 33 #[.agg #[.slice m.ta m.ths.length m.tc, .slice m.fa m.funcs.length m.fc], .int .i64 k] w' fun e w'' => e = .returned (.tuple #[.int .i64 (headZ m f k).1, .int .i64 (headZ m f k).2]) ∧ Below w'.heap.size w' w'') := fun k f w' h hb => checkHead_any m k w' (hm.stay hb) f h
  have HC : Hid (∀ (k : Nat) (f : Fn) (w' : World), m.funcs[k]? = some f → 0 < f.code.length → Below w.heap.size w w' → Calls Tryd.prog 34 #[.agg #[.slice m.ta m.ths.length m.tc, .slice m.fa m.funcs.length m.fc], .int .i64 k] w' fun e w'' => e = .returned (.tuple #[.int .i64 (codeZ m f).1, .int .i64 (codeZ m f).2]) ∧ Below w'.heap.size w' w'') := fun k f w' h hl hb => checkCode_any m k w' (ht.stay hb) (hm.stay hb) f h hl
  have HDH : Hid (∀ (j : Nat) (f : Fn), m.funcs[j]? = some f → headsN m (m.funcs.drop j) j = if (headZ m f j).1 ≠ 0 then ((headZ m f j).1, (j : Int), (headZ m f j).2) else headsN m (m.funcs.drop (j + 1)) (j + 1)) := fun j x h => by
    obtain ⟨h1, h2⟩ := List.getElem?_eq_some_iff.1 h
    rw [headsN_drop h1, h2]
  have HDC : Hid (∀ (j : Nat) (f : Fn), m.funcs[j]? = some f → codesN m (m.funcs.drop j) j = if (codeZ m f).1 ≠ 0 then ((codeZ m f).1, (j : Int), (codeZ m f).2) else codesN m (m.funcs.drop (j + 1)) (j + 1)) := fun j x h => by
    obtain ⟨h1, h2⟩ := List.getElem?_eq_some_iff.1 h
    rw [codesN_drop h1, h2]
  have HEH : Hid (∀ j, ¬ j < m.funcs.length → headsN m (m.funcs.drop j) j = (0, 0, 0)) := fun j h => by rw [List.drop_eq_nil_of_le (by omega)]; rfl
  have HEC : Hid (∀ j, ¬ j < m.funcs.length → codesN m (m.funcs.drop j) j = (0, 0, 0)) := fun j h => by rw [List.drop_eq_nil_of_le (by omega)]; rfl
  have HK : Hid ((headsN m m.funcs 0).1 = 0 → ∀ (j : Nat) (f : Fn), m.funcs[j]? = some f → 0 < f.code.length) := fun h j f hf => (head_rest (heads_ok m.funcs 0 h j f hf)).2.2.2.2.2.2.2.2.2.1
  have M1 := Hid.mk' (mayZ_whole (m := m))
  have M2 := Hid.mk' (mayZ_head (m := m))
  have M3 := Hid.mk' (mayZ_code (m := m))
  clear ht hm
  generalize mayZ m = Z at *
  generalize wholeZ m = WZ at *
  generalize headZ m = HZ at *
  generalize codeZ m = CZ at *
  generalize headsN m = HN at *
  generalize codesN m = CN at *
  obtain ⟨z0, z1, z2⟩ := Z
  obtain ⟨y0, y1, y2⟩ := WZ
  obtain ⟨ta, tc, ths, fa, fc, funcs⟩ := m
  unfold Mo.val fltV
  unfold fltV at HW
  unfold oM at *
  simp only at *
  generalize hW : (w.alloc (.cells #[.slice ta ths.length tc, .slice fa funcs.length fc] 33)).alloc (.cells #[.int .i64 0, .int .i64 0, .int .i64 0] 37) = W at *
  have HWW := Hid.mk' hW
  clear hW
  by_cases h0 : y0 = 0
  · subst h0
    replace M2 : Hid ((HN funcs 0).1 ≠ 0 → (z0, z1, z2) = HN funcs 0) := fun h => M2.out rfl h
    replace M3 : Hid ((HN funcs 0).1 = 0 → (z0, z1, z2) = CN funcs 0) := fun h => M3.out rfl h
    clear M1
    go_enter Tryd.func20, Tryd.ntmps20
    go_wp2_with (go_at_call 32; rw [HWW.out]; refine (HW.out _ hb).mono ?_; rintro e w1 ⟨rfl, hb1⟩; replace b0 := cell_kept_below b0 (Below.one hb1 (.cells #[.int .i64 0, .int .i64 y1, .int .i64 y2] 37)); replace b1 := cell_kept_below b1 (Below.one hb1 (.cells #[.int .i64 0, .int .i64 y1, .int .i64 y2] 37)))
    replace F := F.stay (Below.one hb1 (.cells #[.int .i64 0, .int .i64 y1, .int .i64 y2] 37))
    replace hb := Below.one (Below.on hb hb1) (.cells #[.int .i64 0, .int .i64 y1, .int .i64 y2] 37)
    clear HWW hb1
    generalize w1.alloc (.cells #[.int .i64 0, .int .i64 y1, .int .i64 y2] 37) = V at *
    go_loopw [19] (fun t19 wr => ∃ (j : Nat), j ≤ funcs.length ∧ t19 = .int .i64 j ∧ HN (funcs.drop j) j = HN funcs 0 ∧ Below V.heap.size V wr) (fun t19 _ => funcs.length - (intOf t19).toNat)
    case atStart => exact ⟨0, Nat.zero_le _, rfl, rfl, Below.refl _ _⟩
    case round =>
      obtain ⟨j, hj, rfl, hcnt, hbr⟩ := hrel
      have HCN := Hid.mk' hcnt
      clear hcnt
      have hbw := Below.on hb hbr
      have e0 := cell_kept_below b0 hbr
      have e1 := cell_kept_below b1 hbr
      by_cases hlt : j < funcs.length
      · have hf : funcs[j]? = some funcs[j] := by simp [hlt]
        have HCx := Hid.mk' (HH.out j funcs[j] wr hf hbw)
        have HDj := Hid.mk' (HDH.out j funcs[j] hf)
        generalize funcs[j] = f at *
        generalize HZ f j = Y at *
        obtain ⟨q0, q1⟩ := Y
        simp only at HCx HDj
        clear hf
        by_cases hI : q0 = 0
        · subst hI
          go_wp2_with (go_at_call 33; refine HCx.out.mono ?_; rintro e w4 ⟨rfl, hb4⟩)
          go_roundw
          case rel => exact ⟨j + 1, by omega, by go_num, by rw [← HCN.out, HDj.out]; simp, Below.on hbr hb4⟩
          case measure => simp [intOf]; omega
        · have hI' := bne_of hI
          have hn : HN funcs 0 = (q0, (j : Int), q1) := by rw [← HCN.out, HDj.out, if_pos hI]
          have hz := M2.out (by rw [hn]; exact hI)
          rw [hn] at hz
          simp only [Prod.mk.injEq] at hz
          obtain ⟨rfl, rfl, rfl⟩ := hz
          clear hn hI
          have hb5 := hbw
          go_wp2_with (go_at_call 33; refine HCx.out.mono ?_; rintro e w4 ⟨rfl, hb4⟩; have F4 := F.stay (Below.on hbr hb4); have F0 := F4.c0; have F1 := F4.c1; have F2 := F4.c2; have G0 := F4.f0 0; have G1 := F4.f0 1; have G2 := F4.f0 2)
          exact bodyPost_ret (v := .agg #[.int .i64 z0, .int .i64 j, .int .i64 z2]) (by simp [results, Tryd.results20, go_sem, *]) rfl ⟨rfl, (((Below.on hbw hb4).setCell (by simp) _).setCell (by simp) _).setCell (by simp) _⟩
      · have hn : HN funcs 0 = (0, 0, 0) := by rw [← HCN.out, HEH.out j hlt]
        replace M3 : Hid ((z0, z1, z2) = CN funcs 0) := M3.out (by rw [hn])
        replace HK : Hid (∀ (j : Nat) (f : Fn), funcs[j]? = some f → 0 < f.code.length) := HK.out (by rw [hn])
        have hli : ¬ ((j : Int) < (funcs.length : Int)) := by omega
        have FW := F.stay hbr
        clear hn M2 HH HDH HEH HCN F hlt
        go_wp2_with fail
        obtain ⟨Wo, h⟩ : ∃ Wo, Wo = wr := ⟨_, rfl⟩
        subst h
        go_loopw [38] (fun t38 wr => ∃ (i : Nat), i ≤ funcs.length ∧ t38 = .int .i64 i ∧ CN (funcs.drop i) i = CN funcs 0 ∧ Below Wo.heap.size Wo wr) (fun t38 _ => funcs.length - (intOf t38).toNat)
        case atStart => exact ⟨0, Nat.zero_le _, rfl, rfl, Below.refl _ _⟩
        case round =>
          obtain ⟨i, hi, rfl, hcnt, hbq⟩ := hrel
          have HCN := Hid.mk' hcnt
          clear hcnt
          have hbv := Below.on hbw hbq
          have d0 := cell_kept_below e0 hbq
          have d1 := cell_kept_below e1 hbq
          by_cases hlt : i < funcs.length
          · have hf : funcs[i]? = some funcs[i] := by simp [hlt]
            have HCx := Hid.mk' (HC.out i funcs[i] wr hf (HK.out i _ hf) hbv)
            have HDj := Hid.mk' (HDC.out i funcs[i] hf)
            generalize funcs[i] = f at *
            generalize CZ f = Y at *
            obtain ⟨q0, q1⟩ := Y
            simp only at HCx HDj
            clear hf
            by_cases hI : q0 = 0
            · subst hI
              go_wp2_with (go_at_call 34; refine HCx.out.mono ?_; rintro e w4 ⟨rfl, hb4⟩)
              go_roundw
              case rel => exact ⟨i + 1, by omega, by go_num, by rw [← HCN.out, HDj.out]; simp, Below.on hbq hb4⟩
              case measure => simp [intOf]; omega
            · have hI' := bne_of hI
              have hz := M3.out
              rw [← HCN.out, HDj.out, if_pos hI] at hz
              simp only [Prod.mk.injEq] at hz
              obtain ⟨rfl, rfl, rfl⟩ := hz
              clear hI
              go_wp2_with (go_at_call 34; refine HCx.out.mono ?_; rintro e w4 ⟨rfl, hb4⟩; have F4 := FW.stay (Below.on hbq hb4); have F0 := F4.c0; have F1 := F4.c1; have F2 := F4.c2; have G0 := F4.f0 0; have G1 := F4.f0 1; have G2 := F4.f0 2)
              exact bodyPost_ret (v := .agg #[.int .i64 z0, .int .i64 i, .int .i64 z2]) (by simp [results, Tryd.results20, go_sem, *]) rfl ⟨rfl, (((Below.on hbv hb4).setCell (by simp) _).setCell (by simp) _).setCell (by simp) _⟩
          · have hz := M3.out
            rw [← HCN.out, HEC.out i hlt] at hz
            simp only [Prod.mk.injEq] at hz
            obtain ⟨rfl, rfl, rfl⟩ := hz
            have hli : ¬ ((i : Int) < (funcs.length : Int)) := by omega
            have F4 := FW.stay hbq
            have F0 := F4.c0; have F1 := F4.c1; have F2 := F4.c2; have G0 := F4.f0 0; have G1 := F4.f0 1; have G2 := F4.f0 2
            go_wp2_with fail
            exact bodyPost_ret (v := .agg #[.int .i64 0, .int .i64 0, .int .i64 0]) (by simp [results, Tryd.results20, go_sem, *]) rfl ⟨rfl, ((hbv.setCell (by simp) _).setCell (by simp) _).setCell (by simp) _⟩
  · have hz := M1.out h0
    simp only [Prod.mk.injEq] at hz
    obtain ⟨rfl, rfl, rfl⟩ := hz
    have hI' := bne_of h0
    clear h0 M1 M2 M3
    go_enter Tryd.func20, Tryd.ntmps20
    go_wp2_with (go_at_call 32; rw [HWW.out]; refine (HW.out _ hb).mono ?_; rintro e w1 ⟨rfl, hb1⟩; have F4 := F.stay (Below.one hb1 (.cells #[.int .i64 z0, .int .i64 z1, .int .i64 z2] 37)); have F0 := F4.c0; have F1 := F4.c1; have F2 := F4.c2; have G0 := F4.f0 0; have G1 := F4.f0 1; have G2 := F4.f0 2)
    exact bodyPost_ret (v := .agg #[.int .i64 z0, .int .i64 z1, .int .i64 z2]) (by simp [results, Tryd.results20, go_sem, *]) rfl ⟨rfl, (((Below.one (Below.on hb hb1) _).setCell (by simp) _).setCell (by simp) _).setCell (by simp) _⟩
end Go.Proofs.YtlkoigdnakmdlaaDoor

/- slices.Equal at numbers, spans and instructions; sameFunc; slices.EqualFunc; code.Same. -/
namespace Go.Proofs.YtlkoigdnakmdlaaDoor
open Go.RowKit Go.Sort

theorem equalIn_sp (x y : Sp) (w : World) : (Op.equalIn 10000 71 (.agg #[.int .i64 x.1, .int .i64 x.2]) (.agg #[.int .i64 y.1, .int .i64 y.2])).run Tryd.prog w = .ok (samP x y) w := by
  have u2 := Tryd.underlying2
  have a2 := Tryd.isAgg2
  have z2 := Tryd.sizeOf2
  have hS : Tryd.prog.underlying 71 = some (.struct (Tryd.prog.fieldsOf 71)) := by kernel_rfl
  have hp : Tryd.prog.stoodInHeld 71 = false := by kernel_rfl
  rw [show (10000 : Nat) = 9999 + 1 from rfl, run_equalIn_agg w 9999 71 _ _ hS hp]
  simp only [Program.fieldsOf, Tryd.underlying71]
  go_simp
  unfold samP
  by_cases h1 : x.1 = y.1 <;> by_cases h2 : x.2 = y.2 <;> simp [h1, h2]
theorem equalIn_is (x y : Is) (w : World) : (Op.equalIn 10000 27 (.agg #[.int .i64 x.op, .int .i64 x.a, .int .i64 x.b, .int .i64 x.c, .int .i64 x.n]) (.agg #[.int .i64 y.op, .int .i64 y.a, .int .i64 y.b, .int .i64 y.c, .int .i64 y.n])).run Tryd.prog w = .ok (samX x y) w := by
  have u2 := Tryd.underlying2
  have a2 := Tryd.isAgg2
  have z2 := Tryd.sizeOf2
  have u3 := Tryd.underlying3
  have a3 := Tryd.isAgg3
  have z3 := Tryd.sizeOf3
  have hS : Tryd.prog.underlying 27 = some (.struct (Tryd.prog.fieldsOf 27)) := by kernel_rfl
  have hp : Tryd.prog.stoodInHeld 27 = false := by kernel_rfl
  rw [show (10000 : Nat) = 9999 + 1 from rfl, run_equalIn_agg w 9999 27 _ _ hS hp]
  simp only [Program.fieldsOf, Tryd.underlying27]
  go_simp
  unfold samX
  by_cases h1 : x.op = y.op <;> by_cases h2 : x.a = y.a <;> by_cases h3 : x.b = y.b <;> by_cases h4 : x.c = y.c <;> by_cases h5 : x.n = y.n <;> simp [h1, h2, h3, h4, h5]

set_option maxRecDepth 100000 in
set_option maxHeartbeats 4000000 in
theorem equalI_any (l t : List Int) (a a' : Option Addr) (c c' : Nat) (w : World) (hin : Thr w a l) (hin' : Thr w a' t) :
    Calls Tryd.prog 38 #[.slice a l.length c, .slice a' t.length c'] w fun e w' => e = .returned (.bool (samI l t)) ∧ Below w.heap.size w w' := by
  have HA := Hid.mk' hin
  have HB := Hid.mk' hin'
  have hc := hin.1
  have hc' := hin'.1
  clear hin hin'
  by_cases hle : l.length = t.length
  · have HL : Hid (l.length = t.length) := hle
    rw [← hle]
    clear hle hc'
    go_enter Tryd.func38, Tryd.ntmps38
    go_wp2_with fail
    go_loopw [13] (fun t13 wr => ∃ (j nq : Nat), j ≤ l.length ∧ t13 = .int .i64 j ∧ samI (l.drop j) (t.drop j) = samI l t ∧ wr = w.drewN nq) (fun t13 _ => l.length - (intOf t13).toNat)
    case atStart => exact ⟨0, 0, Nat.zero_le _, rfl, rfl, rfl⟩
    case round =>
      obtain ⟨j, nq, hj, rfl, hcnt, rfl⟩ := hrel
      have HC : Hid (samI (l.drop j) (t.drop j) = samI l t) := hcnt
      clear hcnt
      by_cases hlt : j < l.length
      · have hlt' : j < t.length := by have := HL.out; omega
        obtain ⟨b, o, rfl, c0⟩ := thr_at HA.out hlt
        obtain ⟨b', o', rfl, d0⟩ := thr_at HB.out hlt'
        have hli : (j : Int) < (l.length : Int) := by omega
        have HD : Hid (samI (l.drop j) (t.drop j) = (l[j] == t[j] && samI (l.drop (j + 1)) (t.drop (j + 1)))) := samI_drop hlt hlt'
        generalize l[j] = x at *
        generalize t[j] = y at *
        clear hlt'
        go_wp2_with fail
        go_quiet (fail)
        cases ev : (x == y)
        · have ev' : (x != y) = true := by simp [bne, ev]
          rw [ev] at HD
          go_wp2_with fail
          go_ret
          exact ⟨ret_bool (by rw [← HC.out, HD.out]; rfl), ((Below.refl _ w).drewN _).drewN _⟩
        · have ev' : (x != y) = false := by simp [bne, ev]
          rw [ev] at HD
          go_wp2_with fail
          go_roundw
          case rel => exact ⟨j + 1, _, by omega, by go_num, by rw [← HC.out, HD.out]; rfl, rfl⟩
          case measure => simp [intOf]; omega
      · go_wp2_with fail
        go_ret
        refine ⟨ret_bool ?_, (Below.refl _ w).drewN _⟩
        rw [← HC.out, List.drop_eq_nil_of_le (by omega), List.drop_eq_nil_of_le (by have := HL.out; omega)]; rfl
  · have hne : ((l.length : Int) != (t.length : Int)) = true := by simp only [bne_iff_ne]; omega
    go_enter Tryd.func38, Tryd.ntmps38
    go_wp2_with fail
    go_ret
    exact ⟨ret_bool (by rw [samI_len hle]), Below.refl _ w⟩
set_option maxRecDepth 100000 in
set_option maxHeartbeats 4000000 in
theorem equalP_any (l t : List Sp) (a a' : Option Addr) (c c' : Nat) (w : World) (hin : Sps w a l) (hin' : Sps w a' t) :
    Calls Tryd.prog 50 #[.slice a l.length c, .slice a' t.length c'] w fun e w' => e = .returned (.bool (samPs l t)) ∧ Below w.heap.size w w' := by
  have HA := Hid.mk' hin
  have HB := Hid.mk' hin'
  have hc := hin.1
  have hc' := hin'.1
  clear hin hin'
  by_cases hle : l.length = t.length
  · have HL : Hid (l.length = t.length) := hle
    rw [← hle]
    clear hle hc'
    go_enter Tryd.func50, Tryd.ntmps50
    go_wp2_with fail
    go_loopw [13] (fun t13 wr => ∃ (j nq : Nat), j ≤ l.length ∧ t13 = .int .i64 j ∧ samPs (l.drop j) (t.drop j) = samPs l t ∧ wr = w.drewN nq) (fun t13 _ => l.length - (intOf t13).toNat)
    case atStart => exact ⟨0, 0, Nat.zero_le _, rfl, rfl, rfl⟩
    case round =>
      obtain ⟨j, nq, hj, rfl, hcnt, rfl⟩ := hrel
      have HC : Hid (samPs (l.drop j) (t.drop j) = samPs l t) := hcnt
      clear hcnt
      by_cases hlt : j < l.length
      · have hlt' : j < t.length := by have := HL.out; omega
        obtain ⟨b, o, rfl, c0, c1⟩ := sps_at HA.out hlt
        obtain ⟨b', o', rfl, d0, d1⟩ := sps_at HB.out hlt'
        have hli : (j : Int) < (l.length : Int) := by omega
        have HD : Hid (samPs (l.drop j) (t.drop j) = (samP l[j] t[j] && samPs (l.drop (j + 1)) (t.drop (j + 1)))) := samPs_drop hlt hlt'
        generalize l[j] = x at *
        generalize t[j] = y at *
        clear hlt'
        go_wp2_with fail
        have hq := fun w => equalIn_sp x y w
        have hg : ∀ (w : World) (op : BinOp) (a b : Operand) (xs ys : Array Value), (eqGuard op 71 a b (.agg xs) (.agg ys)).run Tryd.prog w = .ok () w := fun w op a b xs ys => run_eqGuard_agg w op 71 a b xs ys (by kernel_rfl)
        go_quiet (fail)
        clear hq hg
        cases ev : samP x y
        · rw [ev] at HD
          go_wp2_with fail
          go_ret
          exact ⟨ret_bool (by rw [← HC.out, HD.out]; rfl), ((Below.refl _ w).drewN _).drewN _⟩
        · rw [ev] at HD
          go_wp2_with fail
          go_roundw
          case rel => exact ⟨j + 1, _, by omega, by go_num, by rw [← HC.out, HD.out]; rfl, rfl⟩
          case measure => simp [intOf]; omega
      · go_wp2_with fail
        go_ret
        refine ⟨ret_bool ?_, (Below.refl _ w).drewN _⟩
        rw [← HC.out, List.drop_eq_nil_of_le (by omega), List.drop_eq_nil_of_le (by have := HL.out; omega)]; rfl
  · have hne : ((l.length : Int) != (t.length : Int)) = true := by simp only [bne_iff_ne]; omega
    go_enter Tryd.func50, Tryd.ntmps50
    go_wp2_with fail
    go_ret
    exact ⟨ret_bool (by rw [samPs_len hle]), Below.refl _ w⟩
set_option maxRecDepth 100000 in
set_option maxHeartbeats 4000000 in
theorem equalX_any (l t : List Is) (a a' : Option Addr) (c c' : Nat) (w : World) (hin : Iss w a l) (hin' : Iss w a' t) :
    Calls Tryd.prog 51 #[.slice a l.length c, .slice a' t.length c'] w fun e w' => e = .returned (.bool (samXs l t)) ∧ Below w.heap.size w w' := by
  have HA := Hid.mk' hin
  have HB := Hid.mk' hin'
  have hc := hin.1
  have hc' := hin'.1
  clear hin hin'
  by_cases hle : l.length = t.length
  · have HL : Hid (l.length = t.length) := hle
    rw [← hle]
    clear hle hc'
    go_enter Tryd.func51, Tryd.ntmps51
    go_wp2_with fail
    go_loopw [13] (fun t13 wr => ∃ (j nq : Nat), j ≤ l.length ∧ t13 = .int .i64 j ∧ samXs (l.drop j) (t.drop j) = samXs l t ∧ wr = w.drewN nq) (fun t13 _ => l.length - (intOf t13).toNat)
    case atStart => exact ⟨0, 0, Nat.zero_le _, rfl, rfl, rfl⟩
    case round =>
      obtain ⟨j, nq, hj, rfl, hcnt, rfl⟩ := hrel
      have HC : Hid (samXs (l.drop j) (t.drop j) = samXs l t) := hcnt
      clear hcnt
      by_cases hlt : j < l.length
      · have hlt' : j < t.length := by have := HL.out; omega
        obtain ⟨b, o, rfl, c0, c1, c2, c3, c4⟩ := iss_at HA.out hlt
        obtain ⟨b', o', rfl, d0, d1, d2, d3, d4⟩ := iss_at HB.out hlt'
        have hli : (j : Int) < (l.length : Int) := by omega
        have HD : Hid (samXs (l.drop j) (t.drop j) = (samX l[j] t[j] && samXs (l.drop (j + 1)) (t.drop (j + 1)))) := samXs_drop hlt hlt'
        generalize l[j] = x at *
        generalize t[j] = y at *
        clear hlt'
        go_wp2_with fail
        have hq := fun w => equalIn_is x y w
        have hg : ∀ (w : World) (op : BinOp) (a b : Operand) (xs ys : Array Value), (eqGuard op 27 a b (.agg xs) (.agg ys)).run Tryd.prog w = .ok () w := fun w op a b xs ys => run_eqGuard_agg w op 27 a b xs ys (by kernel_rfl)
        go_quiet (fail)
        clear hq hg
        cases ev : samX x y
        · rw [ev] at HD
          go_wp2_with fail
          go_ret
          exact ⟨ret_bool (by rw [← HC.out, HD.out]; rfl), ((Below.refl _ w).drewN _).drewN _⟩
        · rw [ev] at HD
          go_wp2_with fail
          go_roundw
          case rel => exact ⟨j + 1, _, by omega, by go_num, by rw [← HC.out, HD.out]; rfl, rfl⟩
          case measure => simp [intOf]; omega
      · go_wp2_with fail
        go_ret
        refine ⟨ret_bool ?_, (Below.refl _ w).drewN _⟩
        rw [← HC.out, List.drop_eq_nil_of_le (by omega), List.drop_eq_nil_of_le (by have := HL.out; omega)]; rfl
  · have hne : ((l.length : Int) != (t.length : Int)) = true := by simp only [bne_iff_ne]; omega
    go_enter Tryd.func51, Tryd.ntmps51
    go_wp2_with fail
    go_ret
    exact ⟨ret_bool (by rw [samXs_len hle]), Below.refl _ w⟩
end Go.Proofs.YtlkoigdnakmdlaaDoor

/- sameFunc; slices.EqualFunc; code.Same. -/
namespace Go.Proofs.YtlkoigdnakmdlaaDoor
open Go.RowKit Go.Sort

theorem samF_eq (x y : Fn) : samF x y = (x.name.toList == y.name.toList && (x.regs == y.regs && (x.words == y.words && (samPs x.params y.params && samXs x.code y.code)))) := rfl
set_option maxRecDepth 100000 in
set_option maxHeartbeats 4000000 in
theorem sameFunc_any (x y : Fn) (w : World) (hx : x.In w) (hy : y.In w) : Calls Tryd.prog 40 #[x.val, y.val] w fun e w' => e = .returned (.bool (samF x y)) ∧ Below w.heap.size w w' := by
  have hb1 := Below.one (Below.one (Below.refl _ w) (.cells #[.string x.name, .slice x.pa x.params.length x.pc, .int .i64 x.regs, .int .i64 x.words, .slice x.ca x.code.length x.cc] 46)) (.cells #[.string y.name, .slice y.pa y.params.length y.pc, .int .i64 y.regs, .int .i64 y.words, .slice y.ca y.code.length y.cc] 46)
  have c1 := cell_kept_below (new_cell w #[.string x.name, .slice x.pa x.params.length x.pc, .int .i64 x.regs, .int .i64 x.words, .slice x.ca x.code.length x.cc] 46 4 _ rfl) (Below.one (Below.refl _ _) (.cells #[.string y.name, .slice y.pa y.params.length y.pc, .int .i64 y.regs, .int .i64 y.words, .slice y.ca y.code.length y.cc] 46))
  have d1 := new_cell (w.alloc (.cells #[.string x.name, .slice x.pa x.params.length x.pc, .int .i64 x.regs, .int .i64 x.words, .slice x.ca x.code.length x.cc] 46)) #[.string y.name, .slice y.pa y.params.length y.pc, .int .i64 y.regs, .int .i64 y.words, .slice y.ca y.code.length y.cc] 46 4 _ rfl
  rw [World.size_alloc] at d1
  have HP : Hid (∀ w', Below w.heap.size w w' → Calls Tryd.prog 50 #[.slice x.pa x.params.length x.pc, .slice y.pa y.params.length y.pc] w' fun e w'' => e = .returned (.bool (samPs x.params y.params)) ∧ Below w'.heap.size w' w'') := fun w' hb => equalP_any _ _ _ _ _ _ w' (hx.2.2.2.1.stay hb) (hy.2.2.2.1.stay hb)
  have HS : Hid (∀ w', Below w.heap.size w w' → Calls Tryd.prog 51 #[.slice x.ca x.code.length x.cc, .slice y.ca y.code.length y.cc] w' fun e w'' => e = .returned (.bool (samXs x.code y.code)) ∧ Below w'.heap.size w' w'') := fun w' hb => equalX_any _ _ _ _ _ _ w' (hx.2.2.2.2.2.1.stay hb) (hy.2.2.2.2.2.1.stay hb)
  have HE := Hid.mk' (samF_eq x y)
  clear hx hy
  generalize samF x y = res at HE ⊢
  generalize samPs x.params y.params = rp at HE HP
  generalize samXs x.code y.code = rs at HE HS
  unfold Fn.val
  cases e1 : (x.name.toList == y.name.toList)
  · go_enter Tryd.func40, Tryd.ntmps40
    go_wp2_with fail
    go_ret
    exact ⟨ret_bool (by rw [HE.out, e1]; rfl), hb1⟩
  · cases e2 : (x.regs == y.regs)
    · go_enter Tryd.func40, Tryd.ntmps40
      go_wp2_with fail
      go_ret
      exact ⟨ret_bool (by rw [HE.out, e1, e2]; rfl), hb1⟩
    · cases e3 : (x.words == y.words)
      · go_enter Tryd.func40, Tryd.ntmps40
        go_wp2_with fail
        go_ret
        exact ⟨ret_bool (by rw [HE.out, e1, e2, e3]; rfl), hb1⟩
      · go_enter Tryd.func40, Tryd.ntmps40
        go_wp2_with fail
        refine (HP.out _ hb1).mono ?_
        rintro e w1 ⟨rfl, k0⟩
        replace c1 := cell_kept_below c1 k0
        replace d1 := cell_kept_below d1 k0
        have hb2 : Below w.heap.size w w1 := Below.on hb1 k0
        clear k0 hb1
        cases rp
        · go_wp2_with fail
          go_ret
          exact ⟨ret_bool (by rw [HE.out, e1, e2, e3]; rfl), hb2⟩
        · go_wp2_with fail
          refine (HS.out _ hb2).mono ?_
          rintro e w2 ⟨rfl, k1⟩
          go_wp2_with fail
          go_ret
          exact ⟨ret_bool (by rw [HE.out, e1, e2, e3]; rfl), Below.on hb2 k1⟩

set_option maxRecDepth 100000 in
set_option maxHeartbeats 8000000 in
theorem eqF_any (l t : List Fn) (a a' : Option Addr) (c c' : Nat) (w : World) (hin : Fns w a l) (hin' : Fns w a' t) (hl : ∀ f ∈ l, f.In w) (ht : ∀ f ∈ t, f.In w) :
    Calls Tryd.prog 39 #[.slice a l.length c, .slice a' t.length c', .func (.func 40) #[] #[]] w fun e w' => e = .returned (.bool (samFs l t)) ∧ Below w.heap.size w w' := by
  have IH : Hid (∀ (x y : Fn) (w : World), x.In w → y.In w → Calls Tryd.prog 40 #[.agg #[.string x.name, .slice x.pa x.params.length x.pc, .int .i64 x.regs, .int .i64 x.words, .slice x.ca x.code.length x.cc], .agg #[.string y.name, .slice y.pa y.params.length y.pc, .int .i64 y.regs, .int .i64 y.words, .slice y.ca y.code.length y.cc]] w fun e w' => e = .returned (.bool (samF x y)) ∧ Below w.heap.size w w') := fun x y w hx hy => sameFunc_any x y w hx hy
  have HA := Hid.mk' hin
  have HB := Hid.mk' hin'
  have HI := Hid.mk' hl
  have HT := Hid.mk' ht
  have hc := hin.1
  have hc' := hin'.1
  clear hin hin' hl ht
  by_cases hle : l.length = t.length
  · have HL : Hid (l.length = t.length) := hle
    rw [← hle]
    clear hle hc'
    go_enter Tryd.func39, Tryd.ntmps39
    go_wp2_with fail
    go_loopw [17] (fun t17 wr => ∃ (j : Nat), j ≤ l.length ∧ t17 = .int .i64 j ∧ samFs (l.drop j) (t.drop j) = samFs l t ∧ Below w.heap.size w wr) (fun t17 _ => l.length - (intOf t17).toNat)
    case atStart => exact ⟨0, Nat.zero_le _, rfl, rfl, Below.refl _ w⟩
    case round =>
      obtain ⟨j, hj, rfl, hcnt, hb⟩ := hrel
      have HC : Hid (samFs (l.drop j) (t.drop j) = samFs l t) := hcnt
      clear hcnt
      have hws := hb.size
      by_cases hlt : j < l.length
      · have hlt' : j < t.length := by have := HL.out; omega
        obtain ⟨b, o, rfl, c0, c1, c2, c3, c4⟩ := fns_at (HA.out.stay hb) hlt
        obtain ⟨b', o', rfl, d0, d1, d2, d3, d4⟩ := fns_at (HB.out.stay hb) hlt'
        have hbl : b < wr.heap.size := lt_of_cell c0
        have hbl' : b' < wr.heap.size := lt_of_cell d0
        have hli : (j : Int) < (l.length : Int) := by omega
        have HY : Hid (l[j].In w) := HI.out l[j] (List.getElem_mem hlt)
        have HY' : Hid (t[j].In w) := HT.out t[j] (List.getElem_mem hlt')
        have HD := Hid.mk' (samFs_drop hlt hlt')
        generalize l[j] = x at *
        generalize t[j] = y at *
        have hb2 := Below.one (Below.one hb (.cells #[.string x.name, .slice x.pa x.params.length x.pc, .int .i64 x.regs, .int .i64 x.words, .slice x.ca x.code.length x.cc] 46)) (.cells #[.string y.name, .slice y.pa y.params.length y.pc, .int .i64 y.regs, .int .i64 y.words, .slice y.ca y.code.length y.cc] 46)
        go_wp2_with fail
        refine (IH.out x y _ (HY.out.stay hb2) (HY'.out.stay hb2)).mono ?_
        rintro e w' ⟨rfl, hb'⟩
        have hb4 : Below w.heap.size w w' := Below.on hb2 hb'
        clear c0 d0 c1 d1 c2 d2 c3 d3 c4 d4
        cases ev : samF x y
        · rw [ev] at HD
          go_wp2_with fail
          go_ret
          exact ⟨ret_bool (by rw [← HC.out, HD.out]; rfl), hb4⟩
        · rw [ev] at HD
          go_wp2_with fail
          go_roundw
          case rel => exact ⟨j + 1, by omega, by go_num, by rw [← HC.out, HD.out]; rfl, hb4⟩
          case measure => simp [intOf]; omega
      · go_wp2_with fail
        go_ret
        refine ⟨ret_bool ?_, hb⟩
        rw [← HC.out, List.drop_eq_nil_of_le (by omega), List.drop_eq_nil_of_le (by have := HL.out; omega)]; simp [samFs]
  · have hne : ((l.length : Int) != (t.length : Int)) = true := by simp only [bne_iff_ne]; omega
    go_enter Tryd.func39, Tryd.ntmps39
    go_wp2_with fail
    go_ret
    exact ⟨ret_bool (by rw [samFs_len hle]), Below.refl _ w⟩

set_option maxRecDepth 100000 in
set_option maxHeartbeats 4000000 in
theorem same_any (p q : Mo) (w : World) (hx : p.In w) (hy : q.In w) : Calls Tryd.prog 25 #[p.val, q.val] w fun e w' => e = .returned (.bool (samM p q)) ∧ Below w.heap.size w w' := by
  have hb1 := Below.one (Below.one (Below.refl _ w) (.cells #[.slice p.ta p.ths.length p.tc, .slice p.fa p.funcs.length p.fc] 33)) (.cells #[.slice q.ta q.ths.length q.tc, .slice q.fa q.funcs.length q.fc] 33)
  have c1 := cell_kept_below (new_cell w #[.slice p.ta p.ths.length p.tc, .slice p.fa p.funcs.length p.fc] 33 1 _ rfl) (Below.one (Below.refl _ _) (.cells #[.slice q.ta q.ths.length q.tc, .slice q.fa q.funcs.length q.fc] 33))
  have d1 := new_cell (w.alloc (.cells #[.slice p.ta p.ths.length p.tc, .slice p.fa p.funcs.length p.fc] 33)) #[.slice q.ta q.ths.length q.tc, .slice q.fa q.funcs.length q.fc] 33 1 _ rfl
  rw [World.size_alloc] at d1
  have HP : Hid (∀ w', Below w.heap.size w w' → Calls Tryd.prog 38 #[.slice p.ta p.ths.length p.tc, .slice q.ta q.ths.length q.tc] w' fun e w'' => e = .returned (.bool (samI p.ths q.ths)) ∧ Below w'.heap.size w' w'') := fun w' hb => equalI_any _ _ _ _ _ _ w' (hx.1.stay hb) (hy.1.stay hb)
  have HS : Hid (∀ w', Below w.heap.size w w' → Calls Tryd.prog 39 #[.slice p.fa p.funcs.length p.fc, .slice q.fa q.funcs.length q.fc, .func (.func 40) #[] #[]] w' fun e w'' => e = .returned (.bool (samFs p.funcs q.funcs)) ∧ Below w'.heap.size w' w'') := fun w' hb => eqF_any _ _ _ _ _ _ w' (hx.2.2.1.stay hb) (hy.2.2.1.stay hb) (fun f hf => (hx.2.2.2 f hf).stay hb) (fun f hf => (hy.2.2.2 f hf).stay hb)
  have HE : Hid (samM p q = (samI p.ths q.ths && samFs p.funcs q.funcs)) := (rfl : samM p q = _)
  clear hx hy
  generalize samM p q = res at HE ⊢
  generalize samI p.ths q.ths = ri at HE HP
  generalize samFs p.funcs q.funcs = rf at HE HS
  unfold Mo.val
  go_enter Tryd.func25, Tryd.ntmps25
  go_wp2_with fail
  refine (HP.out _ hb1).mono ?_
  rintro e w1 ⟨rfl, k0⟩
  replace c1 := cell_kept_below c1 k0
  replace d1 := cell_kept_below d1 k0
  have hb2 : Below w.heap.size w w1 := Below.on hb1 k0
  clear k0 hb1
  cases ri
  · go_wp2_with fail
    go_ret
    exact ⟨ret_bool (by rw [HE.out]; rfl), hb2⟩
  · go_wp2_with fail
    refine (HS.out _ hb2).mono ?_
    rintro e w2 ⟨rfl, k1⟩
    go_wp2_with fail
    go_ret
    exact ⟨ret_bool (by rw [HE.out]; rfl), Below.on hb2 k1⟩
end Go.Proofs.YtlkoigdnakmdlaaDoor

/- The law's own question that is asked first: the module that it makes. -/
namespace Go.Proofs.YtlkoigdnakmdlaaDoor
open Go.RowKit Go.Shelf

def f0 (h : Nat) (b : Int) : Fn := ⟨⟨#[102]⟩, none, 0, [], 1, 0, some ⟨h, 0, none⟩, 1, [⟨0, 0, b, 0, 0⟩]⟩
def m0 (h : Nat) (b : Int) : Mo := ⟨none, 0, [], some ⟨h + 1, 0, none⟩, 1, [f0 h b]⟩
structure FixM (W : World) (h : Nat) (b : Int) : Prop where
  c : W.heap[h]? = some (.cells #[.int .i64 0, .int .i64 0, .int .i64 b, .int .i64 0, .int .i64 0] 27)
  f : W.heap[h + 1]? = some (.cells #[.string ⟨#[102]⟩, .slice none 0 0, .int .i64 1, .int .i64 0, .slice (some ⟨h, 0, none⟩) 1 1] 46)
  m : W.heap[h + 1 + 1]? = some (.cells #[.slice none 0 0, .slice (some ⟨h + 1, 0, none⟩) 1 1] 33)
theorem block_grown {W W' : World} {b : Nat} {cs : Array Value} {T : TypeId} {fz : Nat × Nat} {row : Option Nat} (h : W.heap[b]? = some (.cells cs T fz)) (hg : W.grownBy W' row) (hr : ∀ r, row = some r → ∃ o : Obj, W.heap[r]? = some o ∧ o.isCells = false) : W'.heap[b]? = some (.cells cs T fz) :=
  (hg.block b (Array.getElem?_eq_some_iff.1 h).1 (fun e => by
    obtain ⟨o, ho, hc⟩ := hr b e.symm
    rw [h] at ho; cases ho; cases hc)).trans h
theorem FixM.grown {W W' : World} {h : Nat} {b : Int} {row : Option Nat} (k : FixM W h b) (hg : W.grownBy W' row) (hr : ∀ r, row = some r → ∃ o : Obj, W.heap[r]? = some o ∧ o.isCells = false) : FixM W' h b := ⟨block_grown k.c hg hr, block_grown k.f hg hr, block_grown k.m hg hr⟩
theorem FixM.stay {W W' : World} {h : Nat} {b : Int} (k : FixM W h b) (hb : Below W.heap.size W W') : FixM W' h b := ⟨(hb.block _ (Array.getElem?_eq_some_iff.1 k.c).1).trans k.c, (hb.block _ (Array.getElem?_eq_some_iff.1 k.f).1).trans k.f, (hb.block _ (Array.getElem?_eq_some_iff.1 k.m).1).trans k.m⟩
theorem FixM.in {W : World} {h : Nat} {b : Int} (k : FixM W h b) (hb : I64 b) : (m0 h b).In W := by
  have r1 : Iss W (some ⟨h, 0, none⟩) [⟨0, 0, b, 0, 0⟩] := by
    refine ⟨by simp, fun i cs hi => ?_⟩
    match i, hi with
    | 0, hi =>
      simp at hi; subst hi
      refine ⟨h, 0, rfl, fun j v hj => ?_⟩
      rw [Lib.cell_of_heap k.c, ← Array.getElem?_toList]
      simpa [Is.cells] using hj
  have r2 : Fns W (some ⟨h + 1, 0, none⟩) [f0 h b] := by
    refine ⟨by simp, fun i cs hi => ?_⟩
    match i, hi with
    | 0, hi =>
      simp at hi; subst hi
      refine ⟨h + 1, 0, rfl, fun j v hj => ?_⟩
      rw [Lib.cell_of_heap k.f, ← Array.getElem?_toList]
      simpa [Fn.cells, f0] using hj
  refine ⟨⟨by simp [m0], fun i cs hi => by simp [m0] at hi⟩, by simp [m0], r2, fun f hf => ?_⟩
  rw [List.mem_singleton.1 hf]
  refine ⟨(by omega : (1 : Nat) ≤ 140737488351232), by unfold I64 f0; simp, by unfold I64 f0; simp, ⟨by simp [f0], fun i cs hi => by simp [f0] at hi⟩, by simp [f0], r1, fun x hx => ?_⟩
  rw [List.mem_singleton.1 hx]
  exact ⟨by unfold I64; simp, by unfold I64; simp, hb, by unfold I64; simp, by unfold I64; simp⟩
theorem may_0 (h : Nat) : mayZ (m0 h 0) = (0, 0, 0) := by kernel_rfl
theorem may_3 (h : Nat) : mayZ (m0 h 3) = (62, 0, 0) := by kernel_rfl
theorem fnd_f (h : Nat) (b : Int) : fndN (m0 h b).funcs ⟨#[102]⟩ 0 = 0 := by kernel_rfl
theorem fnd_g (h : Nat) (b : Int) : fndN (m0 h b).funcs ⟨#[103]⟩ 0 = -1 := by kernel_rfl
theorem sam_0 (h : Nat) : samM (m0 h 3) (m0 h 3) = true := by kernel_rfl
theorem eqf0 (w : World) : (Op.equalIn 10000 37 (.agg #[.int .i64 0, .int .i64 0, .int .i64 0]) (.agg #[.int .i64 0, .int .i64 0, .int .i64 0])).run Tryd.prog w = .ok true w := by kernel_rfl
theorem eqf62 (w : World) : (Op.equalIn 10000 37 (.agg #[.int .i64 62, .int .i64 0, .int .i64 0]) (.agg #[.int .i64 62, .int .i64 0, .int .i64 0])).run Tryd.prog w = .ok true w := by kernel_rfl
theorem eqGuard_f (w : World) (op : BinOp) (a b : Operand) (xs ys : Array Value) : (eqGuard op 37 a b (.agg xs) (.agg ys)).run Tryd.prog w = .ok () w := run_eqGuard_agg w op 37 a b xs ys (by kernel_rfl)
theorem equalIn_fl (a b c a' b' c' : Int) (w : World) : (Op.equalIn 10000 37 (.agg #[.int .i64 a, .int .i64 b, .int .i64 c]) (.agg #[.int .i64 a', .int .i64 b', .int .i64 c'])).run Tryd.prog w = .ok (a == a' && (b == b' && c == c')) w := by
  have u3 := Tryd.underlying3
  have a3 := Tryd.isAgg3
  have z3 := Tryd.sizeOf3
  have u31 := Tryd.underlying35
  have a31 := Tryd.isAgg35
  have z31 := Tryd.sizeOf35
  have hS : Tryd.prog.underlying 37 = some (.struct (Tryd.prog.fieldsOf 37)) := by kernel_rfl
  have hp : Tryd.prog.stoodInHeld 37 = false := by kernel_rfl
  rw [show (10000 : Nat) = 9999 + 1 from rfl, run_equalIn_agg w 9999 37 _ _ hS hp]
  simp only [Program.fieldsOf, Tryd.underlying37]
  go_simp
  by_cases h1 : a = a' <;> by_cases h2 : b = b' <;> by_cases h3 : c = c' <;> simp [h1, h2, h3]
theorem rd_27 : rdL ⟨3, 1, 2, 7, 0⟩ 0 = [2, 7] := by kernel_rfl
theorem wr_2 : wrN ⟨18, 2, 0, 0, 0⟩ = 2 := by kernel_rfl
end Go.Proofs.YtlkoigdnakmdlaaDoor

/- The law's own question that is asked first: it is answered yes. -/
namespace Go.Proofs.YtlkoigdnakmdlaaDoor
open Go.RowKit Go.Shelf
attribute [local go_sem] Oper.semAt_some

theorem nil_no (gf B C : Nat) (w : World) : (binOp BinOp.eql 48 (.func (.func gf) #[] #[.pointer (some ⟨B, 0, none⟩), .pointer (some ⟨C, 0, none⟩)]) Value.nilFunc).run Tryd.prog w = .ok (.bool false) w := by kernel_rfl
def nF (l : List Int) : Int := l.foldl (fun n r => wrap64 (wrap64 (10 * n) + r)) 0
theorem nF_snoc (l : List Int) (r : Int) : nF (l ++ [r]) = wrap64 (wrap64 (10 * nF l) + r) := by unfold nF; rw [List.foldl_append]; rfl
theorem FixM.set {W : World} {h : Nat} {b : Int} (k : FixM W h b) {g : Nat} (h0 : g ≠ h) (h1 : g ≠ h + 1) (h2 : g ≠ h + 1 + 1) (i : Nat) (v : Value) : FixM (W.setCell ⟨g, i, none⟩ v) h b :=
  ⟨(Below.heap_setCell _ _ _ _ h0.symm).trans k.c, (Below.heap_setCell _ _ _ _ h1.symm).trans k.f, (Below.heap_setCell _ _ _ _ h2.symm).trans k.m⟩
theorem FixM.three {W : World} {h : Nat} (k : FixM W h 0) : FixM (W.setCell ⟨h, 2, none⟩ (.int .i64 3)) h 3 := by
  refine ⟨?_, (Below.heap_setCell _ _ _ _ (by simp only; omega)).trans k.f, (Below.heap_setCell _ _ _ _ (by simp only; omega)).trans k.m⟩
  have := heap_setCell_same W h 2 _ _ (.int .i64 3) k.c
  simpa using this
theorem FixM.c0 {W : World} {h : Nat} {b : Int} (k : FixM W h b) : W.cell? ⟨h + 1 + 1, 0, none⟩ = some (.slice none 0 0) := Lib.cell_of_heap k.m 0
theorem FixM.c1 {W : World} {h : Nat} {b : Int} (k : FixM W h b) : W.cell? ⟨h + 1 + 1, 1, none⟩ = some (.slice (some ⟨h + 1, 0, none⟩) 1 1) := Lib.cell_of_heap k.m 1
theorem K_may0 (h : Nat) (W : World) (ht : Tab W) (hm : FixM W h 0) : Calls Tryd.prog 20 #[.agg #[.slice none 0 0, .slice (some ⟨h + 1, 0, none⟩) 1 1]] W fun e w' => e = .returned (.agg #[.int .i64 0, .int .i64 0, .int .i64 0]) ∧ Below W.heap.size W w' := by
  have := may_any (m0 h 0) W ht (hm.in (by unfold I64; simp))
  rw [may_0] at this
  exact this
theorem K_may3 (h : Nat) (W : World) (ht : Tab W) (hm : FixM W h 3) : Calls Tryd.prog 20 #[.agg #[.slice none 0 0, .slice (some ⟨h + 1, 0, none⟩) 1 1]] W fun e w' => e = .returned (.agg #[.int .i64 62, .int .i64 0, .int .i64 0]) ∧ Below W.heap.size W w' := by
  have := may_any (m0 h 3) W ht (hm.in (by unfold I64; simp))
  rw [may_3] at this
  exact this
theorem K_f (h : Nat) (W : World) (hm : FixM W h 3) : Calls Tryd.prog 23 #[.agg #[.slice none 0 0, .slice (some ⟨h + 1, 0, none⟩) 1 1], .string ⟨#[102]⟩] W fun e w' => e = .returned (.int .i64 0) ∧ Below W.heap.size W w' := by
  have := find_any (m0 h 3) ⟨#[102]⟩ W (hm.in (by unfold I64; simp)).2.2.1
  rw [fnd_f] at this
  exact this
theorem K_g (h : Nat) (W : World) (hm : FixM W h 3) : Calls Tryd.prog 23 #[.agg #[.slice none 0 0, .slice (some ⟨h + 1, 0, none⟩) 1 1], .string ⟨#[103]⟩] W fun e w' => e = .returned (.int .i64 (-1)) ∧ Below W.heap.size W w' := by
  have := find_any (m0 h 3) ⟨#[103]⟩ W (hm.in (by unfold I64; simp)).2.2.1
  rw [fnd_g] at this
  exact this
theorem K_s (h : Nat) (W : World) (hm : FixM W h 3) : Calls Tryd.prog 25 #[.agg #[.slice none 0 0, .slice (some ⟨h + 1, 0, none⟩) 1 1], .agg #[.slice none 0 0, .slice (some ⟨h + 1, 0, none⟩) 1 1]] W fun e w' => e = .returned (.bool true) ∧ Below W.heap.size W w' := by
  have := same_any (m0 h 3) (m0 h 3) W (hm.in (by unfold I64; simp)) (hm.in (by unfold I64; simp))
  rw [sam_0] at this
  exact this
theorem K_w (W : World) (ht : Tab W) : Calls Tryd.prog 14 #[.int .i64 19] W fun e w' => e = .returned (.string ⟨#[99, 97, 108, 108]⟩) ∧ Below W.heap.size W w' := word_of 19 W ht
theorem K_v (W : World) (ht : Tab W) : Calls Tryd.prog 12 #[.int .i64 6] W fun e w' => e = .returned (.int .i64 8) ∧ Below W.heap.size W w' := weight_any 6 W ht
theorem K_k (W : World) : Calls Tryd.prog 10 #[.int .i64 0] W fun e w' => e = .returned (.bool true) ∧ w' = W := known_any 0 W
theorem K_2 (W : World) (ht : Tab W) : Calls Tryd.prog 16 #[.agg #[.int .i64 18, .int .i64 2, .int .i64 0, .int .i64 0, .int .i64 0]] W fun e w' => e = .returned (.int .i64 2) ∧ Below W.heap.size W w' := by
  have := writes_any ⟨18, 2, 0, 0, 0⟩ W ht
  rw [wr_2] at this
  exact this
structure FxI (w : World) (pre : List Int) (W : World) : Prop where
  m : FixM W w.heap.size 0
  n : Boxed W (w.heap.size + 1 + 1 + 1) 3 (.int .i64 (nF pre))
  b : Below w.heap.size w W
theorem FxI.grown {w : World} {pre : List Int} {W W' : World} (h : FxI w pre W) {row : Option Nat} {B : Nat} (hB : w.heap.size ≤ B) (hg : W.grownBy W' row) (hr : ∀ r, row = some r → B ≤ r ∧ ∃ o : Obj, W.heap[r]? = some o ∧ o.isCells = false) : FxI w pre W' :=
  ⟨h.m.grown hg (fun r e => (hr r e).2), boxed_grown h.n hg (fun r e => (hr r e).2), h.b.grown hg h.b.size (fun k e => Nat.le_trans hB (hr k e).1)⟩

set_option maxRecDepth 100000 in
set_option maxHeartbeats 4000000 in
theorem fixed_in (w : World) (ht : Tab w) : CallsIn Fence.wide 6 Tryd.prog 9 #[] w fun e w' => e = .returned (.bool true) ∧ Below w.heap.size w w' := by
  have HT := Hid.mk' ht
  have HRD := Hid.mk' (reads_any ⟨3, 1, 2, 7, 0⟩ 0)
  rw [rd_27] at HRD
  unfold Is.val at HRD
  simp only at HRD
  clear ht
  refine callsIn_of_wp_marks Tryd.func9 rfl trivial ?_ rfl
  simp only [Tryd.ntmps9, List.size_toArray, List.length_nil, Nat.reduceSub, Array.replicate_succ, Array.replicate_zero, List.push_toArray, List.append_toArray, List.nil_append, List.cons_append]
  have hm : FixM ((((w.alloc (.cells #[.int .i64 0, .int .i64 0, .int .i64 0, .int .i64 0, .int .i64 0] 27)).alloc (.cells #[.string ⟨#[102]⟩, .slice none 0 0, .int .i64 1, .int .i64 0, .slice (some ⟨w.heap.size, 0, none⟩) 1 1] 46)).alloc (.cells #[.slice none 0 0, .slice (some ⟨w.heap.size + 1, 0, none⟩) 1 1] 33)).alloc (.cells #[.int .i64 0] 3)) w.heap.size 0 := by
    refine ⟨?_, ?_, ?_⟩
    · rw [Below.heap_alloc _ _ _ (by simp; omega), Below.heap_alloc _ _ _ (by simp; omega), Below.heap_alloc _ _ _ (by simp)]; exact heap_alloc_new _ _
    · rw [Below.heap_alloc _ _ _ (by simp), Below.heap_alloc _ _ _ (by simp)]
      have := heap_alloc_new (w.alloc (.cells #[.int .i64 0, .int .i64 0, .int .i64 0, .int .i64 0, .int .i64 0] 27)) (.cells #[.string ⟨#[102]⟩, .slice none 0 0, .int .i64 1, .int .i64 0, .slice (some ⟨w.heap.size, 0, none⟩) 1 1] 46)
      rwa [World.size_alloc] at this
    · rw [Below.heap_alloc _ _ _ (by simp)]
      have := heap_alloc_new ((w.alloc (.cells #[.int .i64 0, .int .i64 0, .int .i64 0, .int .i64 0, .int .i64 0] 27)).alloc (.cells #[.string ⟨#[102]⟩, .slice none 0 0, .int .i64 1, .int .i64 0, .slice (some ⟨w.heap.size, 0, none⟩) 1 1] 46)) (.cells #[.slice none 0 0, .slice (some ⟨w.heap.size + 1, 0, none⟩) 1 1] 33)
      rwa [World.size_alloc, World.size_alloc] at this
  have hn : Boxed ((((w.alloc (.cells #[.int .i64 0, .int .i64 0, .int .i64 0, .int .i64 0, .int .i64 0] 27)).alloc (.cells #[.string ⟨#[102]⟩, .slice none 0 0, .int .i64 1, .int .i64 0, .slice (some ⟨w.heap.size, 0, none⟩) 1 1] 46)).alloc (.cells #[.slice none 0 0, .slice (some ⟨w.heap.size + 1, 0, none⟩) 1 1] 33)).alloc (.cells #[.int .i64 0] 3)) (w.heap.size + 1 + 1 + 1) 3 (.int .i64 0) := by
    have := Boxed.new (((w.alloc (.cells #[.int .i64 0, .int .i64 0, .int .i64 0, .int .i64 0, .int .i64 0] 27)).alloc (.cells #[.string ⟨#[102]⟩, .slice none 0 0, .int .i64 1, .int .i64 0, .slice (some ⟨w.heap.size, 0, none⟩) 1 1] 46)).alloc (.cells #[.slice none 0 0, .slice (some ⟨w.heap.size + 1, 0, none⟩) 1 1] 33)) 3 (.int .i64 0)
    rwa [World.size_alloc, World.size_alloc, World.size_alloc] at this
  have hb : Below w.heap.size w ((((w.alloc (.cells #[.int .i64 0, .int .i64 0, .int .i64 0, .int .i64 0, .int .i64 0] 27)).alloc (.cells #[.string ⟨#[102]⟩, .slice none 0 0, .int .i64 1, .int .i64 0, .slice (some ⟨w.heap.size, 0, none⟩) 1 1] 46)).alloc (.cells #[.slice none 0 0, .slice (some ⟨w.heap.size + 1, 0, none⟩) 1 1] 33)).alloc (.cells #[.int .i64 0] 3)) := Below.one (below3 _ _ _ _) _
  have hz : ((((w.alloc (.cells #[.int .i64 0, .int .i64 0, .int .i64 0, .int .i64 0, .int .i64 0] 27)).alloc (.cells #[.string ⟨#[102]⟩, .slice none 0 0, .int .i64 1, .int .i64 0, .slice (some ⟨w.heap.size, 0, none⟩) 1 1] 46)).alloc (.cells #[.slice none 0 0, .slice (some ⟨w.heap.size + 1, 0, none⟩) 1 1] 33)).alloc (.cells #[.int .i64 0] 3)).heap.size = w.heap.size + 1 + 1 + 1 + 1 := by simp
  have HW := Hid.mk' (And.intro hm (And.intro hn (And.intro hb hz)))
  clear hm hn hb hz
  gi_wp2_with fail
  refine ⟨trivial, ?_⟩
  obtain ⟨hm, hn, hb, hz⟩ := HW.out
  generalize (((w.alloc (.cells #[.int .i64 0, .int .i64 0, .int .i64 0, .int .i64 0, .int .i64 0] 27)).alloc (.cells #[.string ⟨#[102]⟩, .slice none 0 0, .int .i64 1, .int .i64 0, .slice (some ⟨w.heap.size, 0, none⟩) 1 1] 46)).alloc (.cells #[.slice none 0 0, .slice (some ⟨w.heap.size + 1, 0, none⟩) 1 1] 33)).alloc (.cells #[.int .i64 0] 3) = W4 at *
  refine (callsIn_wide.2 (HRD.out _ (HT.out.stay hb))).mono ?_
  rintro e w2 ⟨gf, B, C, rfl, hb2, htl⟩
  have hnb := htl.nb
  have hnc := htl.nc
  have hlb := htl.lb
  have hlc := htl.lc
  have I0 : FxI w [] w2 := ⟨hm.stay hb2, boxed_stay hn hb2, Below.on hb hb2⟩
  have hs2 := hb2.size
  clear HW hm hn hb hb2 HRD
  have hnil := nil_no gf B C
  gi_wp2_with fail
  clear hnil
  refine wpIn_rangeFunc_ownG rfl (by omega) (gf := gf) (lb := #[.pointer (some ⟨B, 0, none⟩), .pointer (some ⟨C, 0, none⟩)]) rfl trivial htl.enters
    (htl.stops 5 (by omega)) (fun h k => kpB_t h k) (kpB_b hlb hlc) (Below.refl _ _) (fun _ => rfl)
    (FxI w) (fun _ _ _ => False)
    (fun pre X Y row h hg hr => h.grown (by have := I0.b.size; omega) hg hr) (fun c pre X Y row h hg hr => h) I0
    (fun r => { tmps := #[.bool false, .pointer (some ⟨w.heap.size + 1 + 1, 0, none⟩), .pointer (some ⟨w.heap.size + 1 + 1 + 1, 0, none⟩), .func (.func gf) #[] #[.pointer (some ⟨B, 0, none⟩), .pointer (some ⟨C, 0, none⟩)], .int .i64 r, undef, .agg #[.int .i64 0, .int .i64 0, .int .i64 0, .int .i64 0, .int .i64 0], .slice (some ⟨w.heap.size, 0, none⟩) 1 1, .agg #[.string ⟨#[102]⟩, .slice none 0 0, .int .i64 1, .int .i64 0, .slice (some ⟨w.heap.size, 0, none⟩) 1 1], .slice (some ⟨w.heap.size + 1, 0, none⟩) 1 1, .agg #[.slice none 0 0, .slice (some ⟨w.heap.size + 1, 0, none⟩) 1 1], .agg #[.int .i64 3, .int .i64 1, .int .i64 2, .int .i64 7, .int .i64 0], .func (.func gf) #[] #[.pointer (some ⟨B, 0, none⟩), .pointer (some ⟨C, 0, none⟩)], .func (.func gf) #[] #[.pointer (some ⟨B, 0, none⟩), .pointer (some ⟨C, 0, none⟩)], .bool false, .func (.func gf) #[] #[.pointer (some ⟨B, 0, none⟩), .pointer (some ⟨C, 0, none⟩)], .int .i64 r, undef, undef, undef, undef, undef, undef, undef, undef, undef, undef, undef, undef, undef, undef, undef, undef, undef, undef, undef, undef, undef, undef, undef, undef, undef, undef, undef, undef, undef, undef, undef, undef, undef, undef, undef, undef, undef, undef, undef, undef, undef, undef, undef, undef, undef, undef, undef, undef, undef, undef, undef, undef, undef, undef, undef, undef, undef], defers := [] })
    ?assign ?body ?done ?stop
  case assign =>
    intro l r W K hK
    gi_wp2
    exact hK
  case body =>
    intro l pre r W hi hlt
    have hss := hi.b.size
    have e3 := hi.n.cell
    have f3 := hi.n.frozen
    have HI := Hid.mk' hi
    clear hi
    gi_wp2
    refine ⟨(KeepsOthers.setCell W _ _).from _, kpB_set _ (by omega) (by omega), ⟨?_, ?_, ?_⟩⟩
    · exact HI.out.m.set (by omega) (by omega) (by omega) _ _
    · have := HI.out.n.set (.int .i64 (wrap64 (wrap64 (10 * nF pre) + r)))
      rw [nF_snoc]; exact this
    · exact HI.out.b.setCell (by simp only; omega) _
  case stop =>
    intro D c pre W hD hS h hK
    exact h.elim
  case done =>
    rintro D ys W hD rfl hi hK
    have hn : Boxed W (w.heap.size + 1 + 1 + 1) 3 (.int .i64 27) := by have := hi.n; rwa [show nF [2, 7] = 27 by kernel_rfl] at this
    have hss := hi.b.size
    have g0 : W.cell? ⟨w.heap.size + 1 + 1, 0, none⟩ = some (.slice none 0 0) := Lib.cell_of_heap hi.m.m 0
    have g1 : W.cell? ⟨w.heap.size + 1 + 1, 1, none⟩ = some (.slice (some ⟨w.heap.size + 1, 0, none⟩) 1 1) := Lib.cell_of_heap hi.m.m 1
    gi_wp2_with fail
    refine ⟨trivial, ?_⟩
    refine (callsIn_wide.2 (K_may0 w.heap.size W (HT.out.stay hi.b) hi.m)).mono ?_
    rintro e w3 ⟨rfl, hb3⟩
    have hb4 := Below.one hb3 (.cells #[.int .i64 0, .int .i64 0, .int .i64 0] 37)
    have m4 := hi.m.stay hb4
    have n4 := boxed_stay hn hb4
    have F4 := FAt.new w3 (0, 0, 0)
    have b4 := Below.on hi.b hb4
    have k4 := (hb4.block D (Array.getElem?_eq_some_iff.1 hK).1).trans hK
    have hs3 := hb3.size
    have hlw : w.heap.size + 1 + 1 + 1 < W.heap.size := hn.lt
    have gg0 : (w3.alloc (.cells #[.int .i64 0, .int .i64 0, .int .i64 0] 37)).cell? ⟨w.heap.size + 1 + 1, 0, none⟩ = some (.slice none 0 0) := Lib.cell_of_heap m4.m 0
    have gg1 : (w3.alloc (.cells #[.int .i64 0, .int .i64 0, .int .i64 0] 37)).cell? ⟨w.heap.size + 1 + 1, 1, none⟩ = some (.slice (some ⟨w.heap.size + 1, 0, none⟩) 1 1) := Lib.cell_of_heap m4.m 1
    have gg2 : (w3.alloc (.cells #[.int .i64 0, .int .i64 0, .int .i64 0] 37)).cell? ⟨w.heap.size + 1, 4, none⟩ = some (.slice (some ⟨w.heap.size, 0, none⟩) 1 1) := Lib.cell_of_heap m4.f 4
    have gg3 : (w3.alloc (.cells #[.int .i64 0, .int .i64 0, .int .i64 0] 37)).cell? ⟨w.heap.size, 2, none⟩ = some (.int .i64 0) := Lib.cell_of_heap m4.c 2
    have gg4 : (w3.alloc (.cells #[.int .i64 0, .int .i64 0, .int .i64 0] 37)).frozen? ⟨w.heap.size, 2, none⟩ = false := Lib.frozen_of_heap m4.c _
    have gg5 := n4.cell
    have gf0 := F4.c0
    have gf1 := F4.c1
    have gf2 := F4.c2
    have nz : ¬ (w3.heap.size = w.heap.size) := by omega
    have hg := eqGuard_f
    have hq0 := eqf0
    have hq6 := eqf62
    have b6 : Below w.heap.size w ((w3.alloc (.cells #[.int .i64 0, .int .i64 0, .int .i64 0] 37)).setCell ⟨w.heap.size, 2, none⟩ (.int .i64 3)) := b4.setCell (Nat.le_refl _) _
    have m6 := m4.three
    have k6 := (KeepsOthers.setCell (w3.alloc (.cells #[.int .i64 0, .int .i64 0, .int .i64 0] 37)) ⟨w.heap.size, 2, none⟩ (.int .i64 3)).same D _ k4 rfl
    have HX := Hid.mk' (And.intro b6 (And.intro m6 k6))
    clear m4 n4 F4 b4 k4 hb3 hb4 b6 m6 k6 g0 g1 hK hi hn
    gi_wp2_with fail
    refine ⟨trivial, ?_⟩
    obtain ⟨b6, m6, k6⟩ := HX.out
    clear HX gg0 gg1 gg2 gg3 gg4 gg5 gf0 gf1 gf2
    generalize (w3.alloc (.cells #[.int .i64 0, .int .i64 0, .int .i64 0] 37)).setCell ⟨w.heap.size, 2, none⟩ (.int .i64 3) = W6 at *
    refine (callsIn_wide.2 (K_may3 w.heap.size W6 (HT.out.stay b6) m6)).mono ?_
    rintro e w7 ⟨rfl, hb7⟩
    replace m6 := m6.stay hb7
    replace b6 := Below.on b6 hb7
    replace k6 := (hb7.block D (Array.getElem?_eq_some_iff.1 k6).1).trans k6
    have d0 := m6.c0
    have d1 := m6.c1
    clear hb7
    gi_wp2_with fail
    refine ⟨trivial, ?_⟩
    refine (callsIn_wide.2 (K_f w.heap.size w7 m6)).mono ?_
    rintro e w8 ⟨rfl, hb8⟩
    replace m6 := m6.stay hb8
    replace b6 := Below.on b6 hb8
    replace k6 := (hb8.block D (Array.getElem?_eq_some_iff.1 k6).1).trans k6
    replace d0 := m6.c0
    replace d1 := m6.c1
    clear hb8
    gi_wp2_with fail
    refine ⟨trivial, ?_⟩
    refine (callsIn_wide.2 (K_g w.heap.size w8 m6)).mono ?_
    rintro e w9 ⟨rfl, hb9⟩
    replace m6 := m6.stay hb9
    replace b6 := Below.on b6 hb9
    replace k6 := (hb9.block D (Array.getElem?_eq_some_iff.1 k6).1).trans k6
    clear hb9 d0 d1
    gi_wp2_with fail
    refine ⟨trivial, ?_⟩
    refine (callsIn_wide.2 (K_w w9 (HT.out.stay b6))).mono ?_
    rintro e w10 ⟨rfl, hb9⟩
    replace m6 := m6.stay hb9
    replace b6 := Below.on b6 hb9
    replace k6 := (hb9.block D (Array.getElem?_eq_some_iff.1 k6).1).trans k6
    clear hb9
    gi_wp2_with fail
    refine ⟨trivial, ?_⟩
    refine (callsIn_wide.2 (K_v w10 (HT.out.stay b6))).mono ?_
    rintro e w11 ⟨rfl, hb9⟩
    replace m6 := m6.stay hb9
    replace b6 := Below.on b6 hb9
    replace k6 := (hb9.block D (Array.getElem?_eq_some_iff.1 k6).1).trans k6
    clear hb9
    gi_wp2_with fail
    refine ⟨trivial, ?_⟩
    refine (callsIn_wide.2 (K_k w11)).mono ?_
    rintro e w12 ⟨rfl, rfl⟩
    gi_wp2_with fail
    refine ⟨trivial, ?_⟩
    refine (callsIn_wide.2 (K_2 w12 (HT.out.stay b6))).mono ?_
    rintro e w13 ⟨rfl, hb9⟩
    replace m6 := m6.stay hb9
    replace b6 := Below.on b6 hb9
    replace k6 := (hb9.block D (Array.getElem?_eq_some_iff.1 k6).1).trans k6
    have d0 := m6.c0
    have d1 := m6.c1
    clear hb9
    gi_wp2_with fail
    refine ⟨trivial, ?_⟩
    refine (callsIn_wide.2 (K_s w.heap.size w13 m6)).mono ?_
    rintro e w14 ⟨rfl, hb9⟩
    replace b6 := Below.on b6 hb9
    replace k6 := (hb9.block D (Array.getElem?_eq_some_iff.1 k6).1).trans k6
    clear hb9 d0 d1 hg hq0 hq6
    gi_wp2_with fail
    refine ⟨by simp, .inl ⟨_, _, rfl, run_takeDeferred k6, ?_⟩⟩
    refine ⟨.bool true, by simp [results, Tryd.results9, go_sem], rfl, ?_⟩
    exact b6.trans (belowK_b (w := w) (Nat.le_refl _) _ D _ _ (by omega) k6 rfl rfl)
theorem fixed_any (w : World) (ht : Tab w) : Calls Tryd.prog 9 #[] w fun e w' => e = .returned (.bool true) ∧ Below w.heap.size w w' := callsIn_wide.1 (fixed_in w ht)
end Go.Proofs.YtlkoigdnakmdlaaDoor

/- CodeWords, CodeFields, CodeFinds. -/
namespace Go.Proofs.YtlkoigdnakmdlaaDoor
open Go.RowKit Go.Sort

set_option maxRecDepth 100000 in
set_option maxHeartbeats 2000000 in
theorem codeWords_any (op : Int) (w : World) (ht : Tab w) : Calls Tryd.prog 3 #[.int .i64 op] w fun e w' => e = .returned (.bool true) ∧ Below w.heap.size w w' := by
  have HT := Hid.mk' ht
  have HF := Hid.mk' fixed_any
  have H1 := Hid.mk' (known_any op)
  have H2 := Hid.mk' (rknown_any op)
  have H3 := Hid.mk' (weight_any op)
  have H4 := Hid.mk' (rweight_any op)
  have H5 := Hid.mk' (word_of op)
  have H6 := Hid.mk' (rword_any op)
  clear ht
  generalize knB op = kn at *
  generalize (rwOf op).weight = wt at *
  generalize (rwOf op).word = wd at *
  go_enter Tryd.func3, Tryd.ntmps3
  go_wp2_with (first | (go_at_call 9; refine (HF.out _ HT.out).mono ?_; rintro e w1 ⟨rfl, hb1⟩) | (go_at_call 10; refine (H1.out _).mono ?_; rintro e w2 ⟨rfl, rfl⟩) | (go_at_call 11; refine (H2.out _).mono ?_; rintro e w3 ⟨rfl, rfl⟩) | (go_at_call 12; refine (H3.out _ (HT.out.stay hb1)).mono ?_; rintro e w4 ⟨rfl, hb4⟩; have hb5 := Below.on hb1 hb4) | (go_at_call 13; refine (H4.out _).mono ?_; rintro e w5 ⟨rfl, rfl⟩) | (go_at_call 14; refine (H5.out _ (HT.out.stay hb5)).mono ?_; rintro e w6 ⟨rfl, hb6⟩) | (go_at_call 15; refine (H6.out _).mono ?_; rintro e w7 ⟨rfl, hb7⟩))
  go_ret
  exact ⟨rfl, Below.on (Below.on hb5 hb6) hb7⟩

set_option maxRecDepth 100000 in
set_option maxHeartbeats 4000000 in
theorem codeFields_any (x : Is) (p stop : Int) (w : World) (ht : Tab w) : Calls Tryd.prog 4 #[x.val, .int .i64 p, .int .i64 stop] w fun e w' => e = .returned (.bool true) ∧ Below w.heap.size w w' := by
  have hb := Below.one (Below.refl _ w) (oX x)
  have HT := Hid.mk' ht
  have HF : Hid (∀ w', Below w.heap.size w w' → Calls Tryd.prog 9 #[] w' fun e w'' => e = .returned (.bool true) ∧ Below w'.heap.size w' w'') := fun w' hb => fixed_any w' (ht.stay hb)
  have H1 : Hid (∀ w', Below w.heap.size w w' → Calls Tryd.prog 16 #[x.val] w' fun e w'' => e = .returned (.int .i64 (wrN x)) ∧ Below w'.heap.size w' w'') := fun w' hb => writes_any x w' (ht.stay hb)
  have H2 : Hid (∀ w', Calls Tryd.prog 17 #[x.val] w' fun e w'' => e = .returned (.int .i64 (wrN x)) ∧ Below w'.heap.size w' w'') := fun w' => rwrites_any x w'
  have H3 : Hid (∀ st w', Below w.heap.size w w' → Calls Tryd.prog 18 #[x.val, .int .i64 p, .int .i64 st] w' fun e w'' => e = .returned (.bool true) ∧ Below w'.heap.size w' w'') := fun st w' hb => told_any x p st w' (ht.stay hb)
  clear ht
  generalize wrN x = z at *
  have x0 := fun d os => cell_regrown (new_cell w #[.int .i64 x.op, .int .i64 x.a, .int .i64 x.b, .int .i64 x.c, .int .i64 x.n] 27 0 (.int .i64 x.op) rfl) d os
  have x1 := fun d os => cell_regrown (new_cell w #[.int .i64 x.op, .int .i64 x.a, .int .i64 x.b, .int .i64 x.c, .int .i64 x.n] 27 1 (.int .i64 x.a) rfl) d os
  have x2 := fun d os => cell_regrown (new_cell w #[.int .i64 x.op, .int .i64 x.a, .int .i64 x.b, .int .i64 x.c, .int .i64 x.n] 27 2 (.int .i64 x.b) rfl) d os
  have x3 := fun d os => cell_regrown (new_cell w #[.int .i64 x.op, .int .i64 x.a, .int .i64 x.b, .int .i64 x.c, .int .i64 x.n] 27 3 (.int .i64 x.c) rfl) d os
  have x4 := fun d os => cell_regrown (new_cell w #[.int .i64 x.op, .int .i64 x.a, .int .i64 x.b, .int .i64 x.c, .int .i64 x.n] 27 4 (.int .i64 x.n) rfl) d os
  have hbg := Hid.mk' fun d os => Below.on hb (below_regrown (w.alloc (oX x)) d os)
  unfold Is.val at *
  go_enter Tryd.func4, Tryd.ntmps4
  go_wp2_with fail
  refine wp_region_quiet_below (by kernel_rfl) (by kernel_rfl) ?_
  repeat (go_big_quiet_step (first | (go_at_call 9; with_reducible exact Calls.regrown_of (HF.out _ (hbg.out _ _))) | (go_at_call 16; with_reducible exact Calls.regrown_of (H1.out _ (hbg.out _ _))) | (go_at_call 17; with_reducible exact Calls.regrown_of (H2.out _)) | (go_at_call 18; with_reducible exact Calls.regrown_of (H3.out _ _ (hbg.out _ _)))))
  refine wpQuiet_nil ?_
  rintro _ ⟨⟨dq, osq⟩, rfl⟩
  clear x0 x1 x2 x3 x4
  go_wp2_with fail
  go_ret
  exact ⟨rfl, hbg.out _ _⟩

set_option maxRecDepth 100000 in
set_option maxHeartbeats 4000000 in
theorem codeFinds_any (m : Mo) (s : ByteArray) (w : World) (ht : Tab w) (hm : m.In w) : Calls Tryd.prog 6 #[m.val, .string s] w fun e w' => e = .returned (.bool true) ∧ Below w.heap.size w w' := by
  have hb := Below.one (Below.refl _ w) (oM m)
  have HF : Hid (∀ w', Below w.heap.size w w' → Calls Tryd.prog 9 #[] w' fun e w'' => e = .returned (.bool true) ∧ Below w'.heap.size w' w'') := fun w' hb => fixed_any w' (ht.stay hb)
  have H1 : Hid (∀ w', Below w.heap.size w w' → Calls Tryd.prog 23 #[m.val, .string s] w' fun e w'' => e = .returned (.int .i64 (fndN m.funcs s 0)) ∧ Below w'.heap.size w' w'') := fun w' hb => find_any m s w' (hm.2.2.1.stay hb)
  have H2 : Hid (∀ w', Below w.heap.size w w' → Calls Tryd.prog 24 #[m.val, .string s] w' fun e w'' => e = .returned (.int .i64 (fndN m.funcs s 0)) ∧ Below w'.heap.size w' w'') := fun w' hb => rfind_any m s w' (hm.2.2.1.stay hb)
  clear ht hm
  generalize fndN m.funcs s 0 = z at *
  have x0 := fun d os => cell_regrown (new_cell w #[.slice m.ta m.ths.length m.tc, .slice m.fa m.funcs.length m.fc] 33 0 (.slice m.ta m.ths.length m.tc) rfl) d os
  have x1 := fun d os => cell_regrown (new_cell w #[.slice m.ta m.ths.length m.tc, .slice m.fa m.funcs.length m.fc] 33 1 (.slice m.fa m.funcs.length m.fc) rfl) d os
  have hbg := Hid.mk' fun d os => Below.on hb (below_regrown (w.alloc (oM m)) d os)
  unfold Mo.val at *
  go_enter Tryd.func6, Tryd.ntmps6
  go_wp2_with fail
  refine wp_region_quiet_below (by kernel_rfl) (by kernel_rfl) ?_
  repeat (go_big_quiet_step (first | (go_at_call 9; with_reducible exact Calls.regrown_of (HF.out _ (hbg.out _ _))) | (go_at_call 23; with_reducible exact Calls.regrown_of (H1.out _ (hbg.out _ _))) | (go_at_call 24; with_reducible exact Calls.regrown_of (H2.out _ (hbg.out _ _)))))
  refine wpQuiet_nil ?_
  rintro _ ⟨⟨dq, osq⟩, rfl⟩
  clear x0 x1
  go_wp2_with fail
  go_ret
  exact ⟨rfl, hbg.out _ _⟩
end Go.Proofs.YtlkoigdnakmdlaaDoor
