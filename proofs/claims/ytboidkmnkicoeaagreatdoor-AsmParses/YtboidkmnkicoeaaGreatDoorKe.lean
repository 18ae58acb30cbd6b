/- The document's own word on a function as a whole: wrong. -/
import Derived.Test.YtboidkmnkicoeaaGreatDoorKa
import Derived.Test.YtboidkmnkicoeaaGreatDoorJm
namespace Go.Proofs.YtboidkmnkicoeaaGreatDoor
open Go.RowKit Go.Sort

theorem fnd_first : ∀ (l : List Fn) (s : ByteArray) (i0 j : Nat) (f : Fn), l[j]? = some f → (f.name.toList == s.toList) = true → (∀ i g, i < j → l[i]? = some g → (g.name.toList == s.toList) = false) → fndN l s i0 = ((i0 + j : Nat) : Int)
  | [], _, _, _, _, h, _, _ => by simp at h
  | g :: r, s, i0, 0, f, h, he, _ => by simp at h; subst h; rw [fndN, if_pos he]; simp
  | g :: r, s, i0, j + 1, f, h, he, hn => by
    rw [fndN, if_neg (by rw [hn 0 g (by omega) (by simp)]; decide), fnd_first r s (i0 + 1) j f (by simpa using h) he (fun i g' hi hg => hn (i + 1) g' (by omega) (by simpa using hg))]
    congr 1; omega

set_option maxRecDepth 100000 in
set_option maxHeartbeats 8000000 in
theorem wrong_any (m : Mo) (k : Nat) (w : World) (hm : m.In w) (f : Fn) (hk : m.funcs[k]? = some f) :
    Calls Tryz.prog 47 #[m.val, .int .i64 k] w fun e w' => e = .returned (.tuple #[.int .i64 (headZ m f k).1, .int .i64 (headZ m f k).2]) ∧ Below w.heap.size w w' := by
  obtain ⟨hk1, hk2⟩ := List.getElem?_eq_some_iff.1 hk
  have hb0 := Below.one (Below.refl _ w) (oM m)
  obtain ⟨b, o, ea, c0, c1, c2, c3, c4⟩ := fns_at (hm.2.2.1.stay hb0) hk1
  rw [hk2] at c0 c1 c2 c3 c4
  have hfl := hm.2.2.1.1
  have hfin := hm.2.2.2 f (List.mem_of_getElem? hk)
  have hki : (k : Int) < (m.funcs.length : Int) := by omega
  have hb := Below.one hb0 (oF f)
  have B := boxMF_new w m f
  have HFn := Hid.mk' hm.2.2.1
  have HP := Hid.mk' hfin.2.2.2.1
  have hcp := hfin.2.2.2.1.1
  have hcc := hfin.2.2.2.2.2.1.1
  have HI := Hid.mk' (risName_any f.name)
  have HT : Hid (∀ j, j < k → (∀ i g, i < j → m.funcs[i]? = some g → (g.name.toList == f.name.toList) = false) → ∀ g, m.funcs[j]? = some g → (g.name.toList == f.name.toList) = true → fndN m.funcs f.name 0 < k) := fun j hj hn g hg he => by
    rw [fnd_first m.funcs f.name 0 j g hg he hn]; omega
  have HTN : Hid ((∀ i g, i < k → m.funcs[i]? = some g → (g.name.toList == f.name.toList) = false) → ¬ fndN m.funcs f.name 0 < k) := fun hn => by
    rw [fnd_first m.funcs f.name 0 k f hk (by simp) hn]; omega
  have HED : Hid (∀ (j : Nat) (s : Sp), f.params[j]? = some s → emptN (f.params.drop j) j = if s.1 > s.2 then some j else emptN (f.params.drop (j + 1)) (j + 1)) := fun j x h => by
    obtain ⟨h1, h2⟩ := List.getElem?_eq_some_iff.1 h
    rw [emptN_drop h1, h2]
  have HEN : Hid (∀ j, ¬ j < f.params.length → emptN (f.params.drop j) j = none) := fun j h => by rw [List.drop_eq_nil_of_le (by omega)]; rfl
  have H1 := Hid.mk' (headZ_name (m := m) (f := f) (k := k))
  have H2 := Hid.mk' (headZ_twice (m := m) (f := f) (k := k))
  have H3 := Hid.mk' (headZ_many (m := m) (f := f) (k := k))
  have H4 : Hid (∀ i, _ → _ → _ → _ → _) := fun i => headZ_empty (m := m) (f := f) (k := k) (i := i)
  have H5 := Hid.mk' (headZ_rest (m := m) (f := f) (k := k))
  have HR : Hid (restZ f = if f.regs < 1 ∨ f.regs > 64 ∨ f.regs < f.params.length then (95, 0) else if f.words < 0 ∨ f.words > 4096 then (96, 0) else if f.code.length < 1 ∨ f.code.length > 1024 then (97, 0) else (0, 0)) := (rfl : restZ f = _)
  have hblk : b < w.heap.size := by
    obtain ⟨b', o', e', d0, _⟩ := fns_at hm.2.2.1 hk1
    rw [ea] at e'; cases e'
    exact lt_of_cell d0
  clear hm hfin hk hk2 hk1
  generalize headZ m f k = Z at *
  generalize fndN m.funcs f.name 0 = fi at *
  generalize idB f.name.data.toList = id at *
  generalize restZ f = R at *
  obtain ⟨z1, z2⟩ := Z
  unfold oM oF at *
  obtain ⟨b0, b1, b2, b3, b4, b5, b6⟩ := B
  obtain ⟨name, pa, pc, params, regs, words, ca, cc, code⟩ := f
  obtain ⟨ta, tc, ths, fa, fc, funcs⟩ := m
  unfold Mo.val
  simp only at *
  subst ea
  generalize ths.length = TL at *
  cases id
  · obtain ⟨rfl, rfl⟩ := Prod.mk.inj (H1.out rfl)
    clear H1 H2 H3 H4 H5 HED HEN HR HT HTN
    go_enter Tryz.func47, Tryz.ntmps47
    go_wp2_with (go_at_call 65; refine (HI.out _).mono ?_; rintro e w1 ⟨rfl, rfl⟩)
    exact bodyPost_ret (v := .tuple #[.int .i64 8, .int .i64 0]) (by simp [results, Tryz.results47, go_sem]) rfl ⟨rfl, hb⟩
  · go_enter Tryz.func47, Tryz.ntmps47
    go_wp2_with (go_at_call 65; refine (HI.out _).mono ?_; rintro e w1 ⟨rfl, rfl⟩)
    generalize (w.alloc (.cells #[.slice ta TL tc, .slice (some ⟨b, o, none⟩) funcs.length fc] 25)).alloc (.cells #[.string name, .slice pa params.length pc, .int .i64 regs, .int .i64 words, .slice ca code.length cc] 34) = W at *
    go_loopw [8] (fun t8 wr => ∃ (j nq : Nat), j ≤ k ∧ t8 = .int .i64 j ∧ (∀ i g, i < j → funcs[i]? = some g → (g.name.toList == name.toList) = false) ∧ wr = W.drewN nq) (fun t8 _ => k - (intOf t8).toNat)
    case atStart => exact ⟨0, 0, Nat.zero_le _, rfl, fun i g h => by omega, rfl⟩
    case round =>
      obtain ⟨j, nq, hj, rfl, hcnt, rfl⟩ := hrel
      have HCN := Hid.mk' hcnt
      clear hcnt
      by_cases hlt : j < k
      · have hjl : j < funcs.length := by omega
        obtain ⟨b', o', ea, d0, d1, d2, d3, d4⟩ := fns_at (HFn.out.stay hb) hjl
        cases ea
        have hli : (j : Int) < (funcs.length : Int) := by omega
        have hlk : (j : Int) < (k : Int) := by omega
        have hg : funcs[j]? = some funcs[j] := by simp [hjl]
        have HTj := Hid.mk' (HT.out j hlt HCN.out funcs[j] hg)
        have HNx : Hid ((funcs[j].name.toList == name.toList) = false → ∀ i g, i < j + 1 → funcs[i]? = some g → (g.name.toList == name.toList) = false) := fun h i g hi hg' => by
          by_cases hij : i = j
          · subst hij; rw [hg] at hg'; cases hg'; exact h
          · exact HCN.out i g (by omega) hg'
        generalize funcs[j] = g at *
        clear hg c0 c1 c2 c3 c4 d1 d2 d3 d4
        cases ev : (g.name.toList == name.toList)
        · have HN := Hid.mk' (HNx.out ev)
          clear HNx HTj
          go_wp2_with fail
          go_quiet (fail)
          go_wp2_with fail
          go_roundw
          case rel => exact ⟨j + 1, _, by omega, by go_num, HN.out, rfl⟩
          case measure => simp [intOf]; omega
        · obtain ⟨rfl, rfl⟩ := Prod.mk.inj (H2.out trivial (HTj.out ev))
          clear HNx HTj
          go_wp2_with fail
          go_quiet (fail)
          go_wp2_with fail
          exact bodyPost_ret (v := .tuple #[.int .i64 9, .int .i64 0]) (by simp [results, Tryz.results47, go_sem]) rfl ⟨rfl, (hb.drewN _).drewN _⟩
      · have hjk : j = k := by omega
        have h2 := HTN.out (by rw [← hjk]; exact HCN.out)
        have hlk : ¬ ((j : Int) < (k : Int)) := by omega
        clear hlt HCN hjk HT HTN
        by_cases h3 : params.length > 8
        · obtain ⟨rfl, rfl⟩ := Prod.mk.inj (H3.out trivial h2 h3)
          have h3' : decide ((8 : Int) < (params.length : Int)) = true := decide_eq_true (by omega)
          clear H1 H2 H3 H4 H5 HED HEN HR
          go_wp2_with fail
          exact bodyPost_ret (v := .tuple #[.int .i64 3, .int .i64 8]) (by simp [results, Tryz.results47, go_sem]) rfl ⟨rfl, hb.drewN _⟩
        · have h3' : ¬ ((8 : Int) < (params.length : Int)) := by omega
          have H4' : Hid (∀ i : Nat, emptN params 0 = some i → (z1, z2) = (40, (i : Int))) := fun i h => H4.out i trivial h2 h3 h
          have H5' : Hid (emptN params 0 = none → (z1, z2) = R) := fun h => H5.out trivial h2 h3 h
          clear H1 H2 H3 H4 H5 h3
          go_wp2_with fail
          have hbW := hb.drewN nq
          replace b3 := cell_kept_below b3 ((Below.refl _ W).drewN nq)
          replace b4 := cell_kept_below b4 ((Below.refl _ W).drewN nq)
          replace b5 := cell_kept_below b5 ((Below.refl _ W).drewN nq)
          replace b6 := cell_kept_below b6 ((Below.refl _ W).drewN nq)
          replace HP := Hid.mk' (HP.out.stay hbW)
          clear b0 b1 b2 c0 c1 c2 c3 c4 hb HFn
          generalize W.drewN nq = V at *
          go_loopw [9] (fun t9 wr => ∃ (j nq : Nat), j ≤ params.length ∧ t9 = .int .i64 j ∧ emptN (params.drop j) j = emptN params 0 ∧ wr = V.drewN nq) (fun t9 _ => params.length - (intOf t9).toNat)
          case atStart => exact ⟨0, 0, Nat.zero_le _, rfl, rfl, rfl⟩
          case round =>
            obtain ⟨j, np, hj, rfl, hcnt, rfl⟩ := hrel
            have HCN := Hid.mk' hcnt
            clear hcnt
            have hbw := hbW.drewN np
            by_cases hlt : j < params.length
            · obtain ⟨b', o', rfl, d0, d1⟩ := sps_at HP.out hlt
              have hli : (j : Int) < (params.length : Int) := by omega
              have HDj := Hid.mk' (HED.out j params[j] (by simp [hlt]))
              generalize params[j] = x at *
              by_cases hI : x.2 < x.1
              · have hz := H4'.out j (by rw [← HCN.out, HDj.out, if_pos hI])
                obtain ⟨rfl, rfl⟩ := Prod.mk.inj hz
                clear hz
                have q := decide_eq_true hI
                go_wp2_with fail
                go_quiet (fail)
                go_wp2_with fail
                exact bodyPost_ret (v := .tuple #[.int .i64 40, .int .i64 j]) (by simp [results, Tryz.results47, go_sem]) rfl ⟨rfl, (hbW.drewN _).drewN _⟩
              · have hn' : emptN (params.drop (j + 1)) (j + 1) = emptN params 0 := by rw [← HCN.out, HDj.out, if_neg hI]
                have HN := Hid.mk' hn'
                clear hn'
                have q : decide (x.2 < x.1) = false := decide_eq_false hI
                go_wp2_with fail
                go_quiet (fail)
                go_wp2_with fail
                go_roundw
                case rel => exact ⟨j + 1, _, by omega, by go_num, HN.out, rfl⟩
                case measure => simp [intOf]; omega
            · have hz := H5'.out (by rw [← HCN.out, HEN.out j hlt])
              rw [HR.out] at hz
              clear H4' H5' HR HED HEN HCN
              by_cases r1 : regs < 1
              · rw [if_pos (.inl r1)] at hz
                obtain ⟨rfl, rfl⟩ := Prod.mk.inj hz
                clear hz
                go_wp2_with fail
                exact bodyPost_ret (v := .tuple #[.int .i64 95, .int .i64 0]) (by simp [results, Tryz.results47, go_sem]) rfl ⟨rfl, hbw⟩
              by_cases r2 : 64 < regs
              · rw [if_pos (.inr (.inl r2))] at hz
                obtain ⟨rfl, rfl⟩ := Prod.mk.inj hz
                clear hz
                go_wp2_with fail
                exact bodyPost_ret (v := .tuple #[.int .i64 95, .int .i64 0]) (by simp [results, Tryz.results47, go_sem]) rfl ⟨rfl, hbw⟩
              by_cases r3 : regs < (params.length : Int)
              · rw [if_pos (.inr (.inr r3))] at hz
                obtain ⟨rfl, rfl⟩ := Prod.mk.inj hz
                clear hz
                go_wp2_with fail
                exact bodyPost_ret (v := .tuple #[.int .i64 95, .int .i64 0]) (by simp [results, Tryz.results47, go_sem]) rfl ⟨rfl, hbw⟩
              rw [if_neg (fun h => h.elim r1 (fun h => h.elim r2 r3))] at hz
              by_cases r4 : words < 0
              · rw [if_pos (.inl r4)] at hz
                obtain ⟨rfl, rfl⟩ := Prod.mk.inj hz
                clear hz
                go_wp2_with fail
                exact bodyPost_ret (v := .tuple #[.int .i64 96, .int .i64 0]) (by simp [results, Tryz.results47, go_sem]) rfl ⟨rfl, hbw⟩
              by_cases r5 : 4096 < words
              · rw [if_pos (.inr r5)] at hz
                obtain ⟨rfl, rfl⟩ := Prod.mk.inj hz
                clear hz
                go_wp2_with fail
                exact bodyPost_ret (v := .tuple #[.int .i64 96, .int .i64 0]) (by simp [results, Tryz.results47, go_sem]) rfl ⟨rfl, hbw⟩
              rw [if_neg (fun h => h.elim r4 r5)] at hz
              by_cases r6 : code.length < 1
              · rw [if_pos (.inl r6)] at hz
                obtain ⟨rfl, rfl⟩ := Prod.mk.inj hz
                have r6' : decide ((code.length : Int) < 1) = true := decide_eq_true (by omega)
                clear hz
                go_wp2_with fail
                exact bodyPost_ret (v := .tuple #[.int .i64 97, .int .i64 0]) (by simp [results, Tryz.results47, go_sem]) rfl ⟨rfl, hbw⟩
              have r6' : ¬ ((code.length : Int) < 1) := by omega
              by_cases r7 : code.length > 1024
              · rw [if_pos (.inr r7)] at hz
                obtain ⟨rfl, rfl⟩ := Prod.mk.inj hz
                have r7' : decide ((1024 : Int) < (code.length : Int)) = true := decide_eq_true (by omega)
                clear hz
                go_wp2_with fail
                exact bodyPost_ret (v := .tuple #[.int .i64 97, .int .i64 0]) (by simp [results, Tryz.results47, go_sem]) rfl ⟨rfl, hbw⟩
              have r7' : ¬ ((1024 : Int) < (code.length : Int)) := by omega
              rw [if_neg (fun h => h.elim r6 r7)] at hz
              obtain ⟨rfl, rfl⟩ := Prod.mk.inj hz
              clear hz
              go_wp2_with fail
              exact bodyPost_ret (v := .tuple #[.int .i64 0, .int .i64 0]) (by simp [results, Tryz.results47, go_sem]) rfl ⟨rfl, hbw⟩
end Go.Proofs.YtboidkmnkicoeaaGreatDoor

/- The document's own May. -/
namespace Go.Proofs.YtboidkmnkicoeaaGreatDoor
open Go.RowKit Go.Sort

theorem may_many {m : Mo} (h : m.ths.length > 16) : mayZ m = (3, 0, 16) := by rw [mayZ_whole (by rw [wholeZ_many h]; decide), wholeZ_many h]
theorem may_rise {m : Mo} {i : Nat} (h : ¬ m.ths.length > 16) (h2 : riseN m.ths 0 = some i) : mayZ m = (66, 0, (i : Int)) := by rw [mayZ_whole (by rw [wholeZ_rise h h2]; simp), wholeZ_rise h h2]
theorem may_funcs {m : Mo} (h : ¬ m.ths.length > 16) (h2 : riseN m.ths 0 = none) (h3 : m.funcs.length > 32) : mayZ m = (3, 32, 0) := by
  have : wholeZ m = (3, 32, 0) := by rw [wholeZ_rest h h2, if_pos h3]
  rw [mayZ_whole (by rw [this]; decide), this]
theorem may_whole {m : Mo} (h : ¬ m.ths.length > 16) (h2 : riseN m.ths 0 = none) (h3 : ¬ m.funcs.length > 32) : (wholeZ m).1 = 0 := by rw [wholeZ_rest h h2, if_neg h3]

set_option maxRecDepth 100000 in
set_option maxHeartbeats 8000000 in
theorem rmay_any (m : Mo) (w : World) (hm : m.In w) :
    Calls Tryz.prog 35 #[m.val] w fun e w' => e = .returned (fltV (mayZ m)) ∧ Below w.heap.size w w' := by
  have hb := Below.one (Below.one (Below.refl _ w) (oM m)) (.cells #[.int .i64 0, .int .i64 0, .int .i64 0] 68)
  have b0 := cell_kept_below (new_cell w #[.slice m.ta m.ths.length m.tc, .slice m.fa m.funcs.length m.fc] 25 0 (.slice m.ta m.ths.length m.tc) rfl) (Below.one (Below.refl _ _) (.cells #[.int .i64 0, .int .i64 0, .int .i64 0] 68))
  have b1 := cell_kept_below (new_cell w #[.slice m.ta m.ths.length m.tc, .slice m.fa m.funcs.length m.fc] 25 1 (.slice m.fa m.funcs.length m.fc) rfl) (Below.one (Below.refl _ _) (.cells #[.int .i64 0, .int .i64 0, .int .i64 0] 68))
  have F := FAt.new (w.alloc (oM m)) (0, 0, 0)
  rw [World.size_alloc] at F
  have hc := hm.2.2.1.1
  have hct := hm.1.1
  have HM := Hid.mk' (hm.1.stay hb)
  have HFn := Hid.mk' hm.2.2.1
  have HFI := Hid.mk' hm.2.2.2
  have HH : Hid (∀ (k : Nat) (f : Fn) (w' : World), m.funcs[k]? = some f → Below w.heap.size w w' → Calls Tryz.prog 47 #[.agg #[.slice m.ta m.ths.length m.tc, .slice m.fa m.funcs.length m.fc], .int .i64 k] w' fun e w'' => e = .returned (.tuple #[.int .i64 (headZ m f k).1, .int .i64 (headZ m f k).2]) ∧ Below w'.heap.size w' w'') := fun k f w' h hb => wrong_any m k w' (hm.stay hb) f h
  have HS : Hid (∀ (f : Fn) (x : Is) (w' : World), Below w.heap.size w w' → Calls Tryz.prog 48 #[.agg #[.slice m.ta m.ths.length m.tc, .slice m.fa m.funcs.length m.fc], .agg #[.string f.name, .slice f.pa f.params.length f.pc, .int .i64 f.regs, .int .i64 f.words, .slice f.ca f.code.length f.cc], .agg #[.int .i64 x.op, .int .i64 x.a, .int .i64 x.b, .int .i64 x.c, .int .i64 x.n]] w' fun e w'' => e = .returned (.int .i64 (insZ m f x)) ∧ Below w'.heap.size w' w'') :=
    fun f x w' hb => spoilt_any m f x w' (hm.2.2.1.stay hb)
  have HDH : Hid (∀ (j : Nat) (f : Fn), m.funcs[j]? = some f → headsN m (m.funcs.drop j) j = if (headZ m f j).1 ≠ 0 then ((headZ m f j).1, (j : Int), (headZ m f j).2) else headsN m (m.funcs.drop (j + 1)) (j + 1)) := fun j x h => by
    obtain ⟨h1, h2⟩ := List.getElem?_eq_some_iff.1 h
    rw [headsN_drop h1, h2]
  have HDC : Hid (∀ (j : Nat) (f : Fn), m.funcs[j]? = some f → codesN m (m.funcs.drop j) j = if (codeZ m f).1 ≠ 0 then ((codeZ m f).1, (j : Int), (codeZ m f).2) else codesN m (m.funcs.drop (j + 1)) (j + 1)) := fun j x h => by
    obtain ⟨h1, h2⟩ := List.getElem?_eq_some_iff.1 h
    rw [codesN_drop h1, h2]
  have HEH : Hid (∀ j, ¬ j < m.funcs.length → headsN m (m.funcs.drop j) j = (0, 0, 0)) := fun j h => by rw [List.drop_eq_nil_of_le (by omega)]; rfl
  have HEC : Hid (∀ j, ¬ j < m.funcs.length → codesN m (m.funcs.drop j) j = (0, 0, 0)) := fun j h => by rw [List.drop_eq_nil_of_le (by omega)]; rfl
  have HDI : Hid (∀ (f : Fn) (j : Nat) (x : Is), f.code[j]? = some x → codeN m f (f.code.drop j) j = if insZ m f x ≠ 0 then (insZ m f x, (j : Int)) else codeN m f (f.code.drop (j + 1)) (j + 1)) := fun f j x h => by
    obtain ⟨h1, h2⟩ := List.getElem?_eq_some_iff.1 h
    rw [codeN_drop h1, h2]
  have HEI : Hid (∀ (f : Fn) j, ¬ j < f.code.length → codeN m f (f.code.drop j) j = (0, 0)) := fun f j h => codeN_end h
  have HZB : Hid (∀ (f : Fn) e i, codeN m f f.code 0 = (e, i) → e ≠ 0 → codeZ m f = (e, i)) := fun f e i => codeZ_bad
  have HZO : Hid (∀ (f : Fn), codeN m f f.code 0 = (0, 0) → codeZ m f = if lastOp f = 0 ∨ lastOp f = 14 ∨ lastOp f = 18 then (0, 0) else (64, (f.code.length : Int) - 1)) := fun f => codeZ_ok
  have HK : Hid ((headsN m m.funcs 0).1 = 0 → ∀ (j : Nat) (f : Fn), m.funcs[j]? = some f → 0 < f.code.length) := fun h j f hf => (head_rest (heads_ok m.funcs 0 h j f hf)).2.2.2.2.2.2.2.2.2.1
  have H1 := Hid.mk' (may_many (m := m))
  have H2 : Hid (∀ i : Nat, ¬ m.ths.length > 16 → riseN m.ths 0 = some i → mayZ m = (66, 0, (i : Int))) := fun i => may_rise
  have H3 := Hid.mk' (may_funcs (m := m))
  have M2 : Hid (¬ m.ths.length > 16 → riseN m.ths 0 = none → ¬ m.funcs.length > 32 → (headsN m m.funcs 0).1 ≠ 0 → mayZ m = headsN m m.funcs 0) := fun a b c d => mayZ_head (may_whole a b c) d
  have M3 : Hid (¬ m.ths.length > 16 → riseN m.ths 0 = none → ¬ m.funcs.length > 32 → (headsN m m.funcs 0).1 = 0 → mayZ m = codesN m m.funcs 0) := fun a b c d => mayZ_code (may_whole a b c) d
  clear hm
  generalize mayZ m = Z at *
  generalize headZ m = HZ at *
  generalize codeZ m = CZ at *
  generalize headsN m = HN at *
  generalize codesN m = CN at *
  generalize insZ m = IZ at *
  generalize codeN m = KN at *
  obtain ⟨z0, z1, z2⟩ := Z
  obtain ⟨ta, tc, ths, fa, fc, funcs⟩ := m
  unfold Mo.val fltV
  unfold oM at *
  simp only at *
  by_cases h1 : ths.length > 16
  · have e := H1.out h1
    simp only [Prod.mk.injEq] at e
    obtain ⟨rfl, rfl, rfl⟩ := e
    have h1' : decide ((16 : Int) < (ths.length : Int)) = true := decide_eq_true (by omega)
    clear H1 H2 H3 HM M2 M3
    go_enter Tryz.func35, Tryz.ntmps35
    go_wp2_with fail
    exact bodyPost_ret (v := .agg #[.int .i64 3, .int .i64 0, .int .i64 16]) (by simp [results, Tryz.results35, go_sem]) rfl ⟨rfl, Below.one (Below.one (Below.refl _ w) _) _⟩
  · have h1' : ¬ ((16 : Int) < (ths.length : Int)) := by omega
    replace H2 : Hid (∀ i : Nat, riseN ths 0 = some i → (z0, z1, z2) = (66, 0, (i : Int))) := fun i h => H2.out i h1 h
    replace H3 : Hid (riseN ths 0 = none → funcs.length > 32 → (z0, z1, z2) = (3, 32, 0)) := fun h => H3.out h1 h
    replace M2 : Hid (riseN ths 0 = none → ¬ funcs.length > 32 → (HN funcs 0).1 ≠ 0 → (z0, z1, z2) = HN funcs 0) := fun h => M2.out h1 h
    replace M3 : Hid (riseN ths 0 = none → ¬ funcs.length > 32 → (HN funcs 0).1 = 0 → (z0, z1, z2) = CN funcs 0) := fun h => M3.out h1 h
    clear H1 h1
    go_enter Tryz.func35, Tryz.ntmps35
    go_wp2_with fail
    generalize (w.alloc (.cells #[.slice ta ths.length tc, .slice fa funcs.length fc] 25)).alloc (.cells #[.int .i64 0, .int .i64 0, .int .i64 0] 68) = W at *
    go_loopw [3] (fun t3 wr => ∃ (i nq : Nat), (i = 0 ∨ i + 1 ≤ ths.length) ∧ t3 = .int .i64 ((i : Int) + 1) ∧ riseN (ths.drop i) i = riseN ths 0 ∧ wr = W.drewN nq) (fun t3 _ => ths.length - (intOf t3).toNat)
    case atStart => exact ⟨0, 0, .inl rfl, rfl, rfl, rfl⟩
    case round =>
      obtain ⟨i, nq, hi, rfl, hcnt, rfl⟩ := hrel
      have HCN := Hid.mk' hcnt
      clear hcnt
      by_cases hlt : i + 1 < ths.length
      · obtain ⟨b', o', ea, d0⟩ := thr_at HM.out hlt
        obtain ⟨b'', o'', rfl, d1⟩ := thr_at HM.out (show i < ths.length by omega)
        cases ea
        have hli : (i : Int) + 1 < (ths.length : Int) := by omega
        have hli2 : (i : Int) < (ths.length : Int) := by omega
        have hsub : (i : Int) + 1 - 1 = i := by omega
        have htn : ((i : Int) + 1).toNat = i + 1 := by omega
        have HDj := Hid.mk' (riseN_drop hlt)
        generalize ths[i + 1] = x at *
        generalize ths[i] = y at *
        by_cases hI : x ≤ y
        · have hz := H2.out (i + 1) (by rw [← HCN.out, HDj.out, if_pos hI])
          simp only [Prod.mk.injEq] at hz
          obtain ⟨rfl, rfl, rfl⟩ := hz
          have q := decide_eq_true hI
          have F0 := F.c0; have F1 := F.c1; have F2 := F.c2; have G0 := F.f0 0; have G1 := F.f0 1; have G2 := F.f0 2
          simp only at F0 F1 F2
          go_wp2_with fail
          go_quiet (fail)
          go_wp2_with fail
          exact bodyPost_ret (v := .agg #[.int .i64 66, .int .i64 0, .int .i64 ((i : Int) + 1)]) (by simp [results, Tryz.results35, go_sem, *]) rfl ⟨rfl, (((hb.drewN _).setCell (by simp) _).setCell (by simp) _).setCell (by simp) _⟩
        · have q : decide (x ≤ y) = false := decide_eq_false hI
          have hn' : riseN (ths.drop (i + 1)) (i + 1) = riseN ths 0 := by rw [← HCN.out, HDj.out, if_neg hI]
          have HN' := Hid.mk' hn'
          clear hn'
          go_wp2_with fail
          go_quiet (fail)
          go_wp2_with fail
          go_roundw
          case rel => exact ⟨i + 1, _, .inr (by omega), by go_num, HN'.out, rfl⟩
          case measure => simp [intOf]; omega
      · have hrise : riseN ths 0 = none := by rw [← HCN.out, riseN_end hlt]
        have hli : ¬ ((i : Int) + 1 < (ths.length : Int)) := by omega
        have F0 := F.c0; have F1 := F.c1; have F2 := F.c2; have G0 := F.f0 0; have G1 := F.f0 1; have G2 := F.f0 2
        simp only at F0 F1 F2
        by_cases h2 : funcs.length > 32
        · have hz := H3.out hrise h2
          simp only [Prod.mk.injEq] at hz
          obtain ⟨rfl, rfl, rfl⟩ := hz
          have h2' : decide ((32 : Int) < (funcs.length : Int)) = true := decide_eq_true (by omega)
          clear hrise M2 M3 H2 H3
          go_wp2_with fail
          exact bodyPost_ret (v := .agg #[.int .i64 3, .int .i64 32, .int .i64 0]) (by simp [results, Tryz.results35, go_sem, *]) rfl ⟨rfl, (((hb.drewN _).setCell (by simp) _).setCell (by simp) _).setCell (by simp) _⟩
        · have h2' : ¬ ((32 : Int) < (funcs.length : Int)) := by omega
          replace M2 : Hid ((HN funcs 0).1 ≠ 0 → (z0, z1, z2) = HN funcs 0) := M2.out hrise h2
          replace M3 : Hid ((HN funcs 0).1 = 0 → (z0, z1, z2) = CN funcs 0) := M3.out hrise h2
          clear hrise H2 H3 HM HCN hlt F0 F1 F2 G0 G1 G2
          go_wp2_with fail
          have hbD := (Below.refl W.heap.size W).drewN nq
          replace hb := hb.drewN nq
          replace F := F.stay hbD
          replace b1 := cell_kept_below b1 hbD
          replace b0 := cell_kept_below b0 hbD
          clear hbD
          generalize W.drewN nq = V at *
          go_loopw [4] (fun t4 wr => ∃ (j : Nat), j ≤ funcs.length ∧ t4 = .int .i64 j ∧ HN (funcs.drop j) j = HN funcs 0 ∧ Below V.heap.size V wr) (fun t4 _ => funcs.length - (intOf t4).toNat)
          case atStart => exact ⟨0, Nat.zero_le _, rfl, rfl, Below.refl _ _⟩
          case round =>
            obtain ⟨j, hj, rfl, hcnt, hbr⟩ := hrel
            have HCN := Hid.mk' hcnt
            clear hcnt
            have hbw := Below.on hb hbr
            have e0 := cell_kept_below b0 hbr
            have e1 := cell_kept_below b1 hbr
            by_cases hlt : j < funcs.length
            · have hf : funcs[j]? = some funcs[j] := by simp [hlt]
              have hlj : (j : Int) < (funcs.length : Int) := by omega
              have HCx := Hid.mk' (HH.out j funcs[j] wr hf hbw)
              have HDj := Hid.mk' (HDH.out j funcs[j] hf)
              generalize funcs[j] = f at *
              generalize HZ f j = Y at *
              obtain ⟨q0, q1⟩ := Y
              simp only at HCx HDj
              clear hf
              by_cases hI : q0 = 0
              · subst hI
                go_wp2_with (go_at_call 47; refine HCx.out.mono ?_; rintro e w4 ⟨rfl, hb4⟩)
                go_roundw
                case rel => exact ⟨j + 1, by omega, by go_num, by rw [← HCN.out, HDj.out]; simp, Below.on hbr hb4⟩
                case measure => simp [intOf]; omega
              · have hI' := bne_of hI
                have hn : HN funcs 0 = (q0, (j : Int), q1) := by rw [← HCN.out, HDj.out, if_pos hI]
                have hz := M2.out (by rw [hn]; exact hI)
                rw [hn] at hz
                simp only [Prod.mk.injEq] at hz
                obtain ⟨rfl, rfl, rfl⟩ := hz
                clear hn hI
                go_wp2_with (go_at_call 47; refine HCx.out.mono ?_; rintro e w4 ⟨rfl, hb4⟩; have F4 := F.stay (Below.on hbr hb4); have F0 := F4.c0; have F1 := F4.c1; have F2 := F4.c2; have G0 := F4.f0 0; have G1 := F4.f0 1; have G2 := F4.f0 2)
                exact bodyPost_ret (v := .agg #[.int .i64 z0, .int .i64 j, .int .i64 z2]) (by simp [results, Tryz.results35, go_sem, *]) rfl ⟨rfl, (((Below.on hbw hb4).setCell (by simp) _).setCell (by simp) _).setCell (by simp) _⟩
            · have hn : HN funcs 0 = (0, 0, 0) := by rw [← HCN.out, HEH.out j hlt]
              replace M3 : Hid ((z0, z1, z2) = CN funcs 0) := M3.out (by rw [hn])
              replace HK : Hid (∀ (j : Nat) (f : Fn), funcs[j]? = some f → 0 < f.code.length) := HK.out (by rw [hn])
              have hlj : ¬ ((j : Int) < (funcs.length : Int)) := by omega
              have FW := F.stay hbr
              clear hn M2 HH HDH HEH HCN F hlt b0 b1 hb
              go_wp2_with fail
              obtain ⟨Wo, h⟩ : ∃ Wo, Wo = wr := ⟨_, rfl⟩
              subst h
              go_loopw [7] (fun t7 wr => ∃ (i : Nat), i ≤ funcs.length ∧ t7 = .int .i64 i ∧ CN (funcs.drop i) i = CN funcs 0 ∧ Below Wo.heap.size Wo wr) (fun t7 _ => funcs.length - (intOf t7).toNat)
              case atStart => exact ⟨0, Nat.zero_le _, rfl, rfl, Below.refl _ _⟩
              case round =>
                obtain ⟨i, hi, rfl, hcnt, hbq⟩ := hrel
                have HCN := Hid.mk' hcnt
                clear hcnt
                have hbv := Below.on hbw hbq
                have d0 := cell_kept_below e0 hbq
                have d1 := cell_kept_below e1 hbq
                have FV := FW.stay hbq
                by_cases hlt : i < funcs.length
                · have hf : funcs[i]? = some funcs[i] := by simp [hlt]
                  obtain ⟨b, o, rfl, c0, c1, c2, c3, c4⟩ := fns_at (HFn.out.stay hbv) hlt
                  have hli2 : (i : Int) < (funcs.length : Int) := by omega
                  have hfin := HFI.out funcs[i] (List.getElem_mem hlt)
                  have HFC := Hid.mk' hfin.2.2.2.2.2.1
                  have hcl := hfin.2.2.2.2.2.1.1
                  have HDj := Hid.mk' (HDC.out i funcs[i] hf)
                  have hpos := HK.out i _ hf
                  have hpos1 : 1 ≤ funcs[i].code.length := hpos
                  have HL := Hid.mk' (lastOp_at hpos)
                  have HDx := Hid.mk' (HDI.out funcs[i])
                  have HEx := Hid.mk' (HEI.out funcs[i])
                  have HBx := Hid.mk' (HZB.out funcs[i])
                  have HOx := Hid.mk' (HZO.out funcs[i])
                  have HSx := Hid.mk' (HS.out funcs[i])
                  clear hf hfin e0 e1
                  generalize funcs[i] = f at *
                  generalize CZ f = Y at *
                  generalize IZ f = I at *
                  generalize KN f = K at *
                  generalize lastOp f = lo at *
                  obtain ⟨q0, q1⟩ := Y
                  obtain ⟨name, pa, pc, params, regs, words, ca, cc, code⟩ := f
                  simp only at *
                  go_wp2_with fail
                  obtain ⟨Wi, h⟩ : ∃ Wi, Wi = wr := ⟨_, rfl⟩
                  subst h
                  go_loopw [9] (fun t9 wr => ∃ (j : Nat), j ≤ code.length ∧ t9 = .int .i64 j ∧ K (code.drop j) j = K code 0 ∧ Below Wi.heap.size Wi wr) (fun t9 _ => code.length - (intOf t9).toNat)
                  case atStart => exact ⟨0, Nat.zero_le _, rfl, rfl, Below.refl _ _⟩
                  case round =>
                    obtain ⟨jj, hjj, rfl, hcnt, hbs⟩ := hrel
                    have HKN := Hid.mk' hcnt
                    clear hcnt
                    have hbt := Below.on hbv hbs
                    by_cases hltc : jj < code.length
                    · obtain ⟨b', o', rfl, x0, x1, x2, x3, x4⟩ := iss_at (HFC.out.stay hbt) hltc
                      have hlc : (jj : Int) < (code.length : Int) := by omega
                      have HDjj := Hid.mk' (HDx.out jj code[jj] (by simp [hltc]))
                      generalize code[jj] = x at *
                      have HCx := Hid.mk' (HSx.out x)
                      generalize I x = ix at *
                      have hbg := Hid.mk' fun d os => Below.on hbt (below_regrown wr d os)
                      have g0 := fun d os => cell_regrown (cell_kept_below d0 hbs) d os
                      have g1 := fun d os => cell_regrown (cell_kept_below d1 hbs) d os
                      have k0 := fun d os => cell_regrown (cell_kept_below c0 hbs) d os
                      have k1 := fun d os => cell_regrown (cell_kept_below c1 hbs) d os
                      have k2 := fun d os => cell_regrown (cell_kept_below c2 hbs) d os
                      have k3 := fun d os => cell_regrown (cell_kept_below c3 hbs) d os
                      have k4 := fun d os => cell_regrown (cell_kept_below c4 hbs) d os
                      replace x0 := fun d os => cell_regrown x0 d os
                      replace x1 := fun d os => cell_regrown x1 d os
                      replace x2 := fun d os => cell_regrown x2 d os
                      replace x3 := fun d os => cell_regrown x3 d os
                      replace x4 := fun d os => cell_regrown x4 d os
                      have FX := FV.stay hbs
                      clear c0 c1 c2 c3 c4 d0 d1
                      go_wp2_with fail
                      refine wp_region_quiet_below (by kernel_rfl) (by kernel_rfl) ?_
                      repeat (go_big_quiet_step (first | (go_at_call 48; with_reducible exact Calls.regrown_of (HCx.out _ (hbg.out _ _)))))
                      refine wpQuiet_nil ?_
                      rintro _ ⟨⟨dq, osq⟩, rfl⟩
                      clear g0 g1 k0 k1 k2 k3 k4 x0 x1 x2 x3 x4
                      have F4 := FX.stay (below_regrown wr dq osq)
                      by_cases hI : ix = 0
                      · subst hI
                        go_wp2_with fail
                        go_roundw
                        case rel => exact ⟨jj + 1, by omega, by go_num, by rw [← HKN.out, HDjj.out]; simp, Below.on hbs (below_regrown wr dq osq)⟩
                        case measure => simp [intOf]; omega
                      · have hI' := bne_of hI
                        have hcz := HBx.out ix jj (by rw [← HKN.out, HDjj.out, if_pos hI]) hI
                        obtain ⟨rfl, rfl⟩ := Prod.mk.inj hcz
                        have hz := M3.out
                        rw [← HCN.out, HDj.out, if_pos hI] at hz
                        simp only [Prod.mk.injEq] at hz
                        obtain ⟨rfl, rfl, rfl⟩ := hz
                        clear hI hcz
                        have F0 := F4.c0; have F1 := F4.c1; have F2 := F4.c2; have G0 := F4.f0 0; have G1 := F4.f0 1; have G2 := F4.f0 2
                        simp only at F0 F1 F2
                        have hbz := hbg.out dq osq
                        clear FX F4
                        generalize grow (redrawn wr dq) osq = WZ at *
                        go_wp2_with fail
                        exact bodyPost_ret (v := .agg #[.int .i64 z0, .int .i64 i, .int .i64 jj]) (by simp [results, Tryz.results35, go_sem, *]) rfl ⟨rfl, ((hbz.setCell (by simp) _).setCell (by simp) _).setCell (by simp) _⟩
                    · have hzo := HOx.out (by rw [← HKN.out, HEx.out jj hltc])
                      obtain ⟨n, hn⟩ : ∃ n, code.length = n + 1 := ⟨code.length - 1, by omega⟩
                      have hnl : n < code.length := by omega
                      obtain ⟨b', o', rfl, x0, x1, x2, x3, x4⟩ := iss_at (HFC.out.stay hbt) hnl
                      have hlo : lo = code[n].op := by rw [HL.out]; congr 2; omega
                      rw [← hlo] at x0
                      have hlc : (n : Int) < (code.length : Int) := by omega
                      have hsub : (code.length : Int) - 1 = n := by omega
                      have hlc2 : ¬ ((jj : Int) < (code.length : Int)) := by omega
                      rw [hsub] at hzo
                      have F4 := FV.stay hbs
                      have F0 := F4.c0; have F1 := F4.c1; have F2 := F4.c2; have G0 := F4.f0 0; have G1 := F4.f0 1; have G2 := F4.f0 2
                      simp only at F0 F1 F2
                      have HNC : Hid (q0 = 0 → CN (funcs.drop (i + 1)) (i + 1) = CN funcs 0) := fun h => by rw [← HCN.out, HDj.out, if_neg (by simp [h])]
                      clear hn hnl x1 x2 x3 x4 hlo c0 c1 c2 c3 c4 HDx HEx HBx HOx HSx HL hpos1
                      by_cases h1 : lo = 0
                      · rw [if_pos (.inl h1)] at hzo
                        have HC1 := Hid.mk' (HNC.out (Prod.mk.inj hzo).1)
                        have q1 : (lo != 0) = false := bne_no h1
                        clear h1 hzo HNC HDj
                        go_wp2_with fail
                        go_roundw
                        case rel => exact ⟨i + 1, by omega, by go_num, HC1.out, Below.on hbq hbs⟩
                        case measure => simp [intOf]; omega
                      · have q1 : (lo != 0) = true := bne_of h1
                        by_cases h2 : lo = 14
                        · rw [if_pos (.inr (.inl h2))] at hzo
                          have HC1 := Hid.mk' (HNC.out (Prod.mk.inj hzo).1)
                          have q2 : (lo != 14) = false := bne_no h2
                          clear h1 h2 hzo HNC HDj
                          go_wp2_with fail
                          go_roundw
                          case rel => exact ⟨i + 1, by omega, by go_num, HC1.out, Below.on hbq hbs⟩
                          case measure => simp [intOf]; omega
                        · have q2 : (lo != 14) = true := bne_of h2
                          by_cases h3 : lo = 18
                          · rw [if_pos (.inr (.inr h3))] at hzo
                            have HC1 := Hid.mk' (HNC.out (Prod.mk.inj hzo).1)
                            have q3 : (lo != 18) = false := bne_no h3
                            clear h1 h2 h3 hzo HNC HDj
                            go_wp2_with fail
                            go_roundw
                            case rel => exact ⟨i + 1, by omega, by go_num, HC1.out, Below.on hbq hbs⟩
                            case measure => simp [intOf]; omega
                          · rw [if_neg (by simp [h1, h2, h3])] at hzo
                            obtain ⟨rfl, rfl⟩ := Prod.mk.inj hzo
                            have q3 : (lo != 18) = true := bne_of h3
                            have hz := M3.out
                            rw [← HCN.out, HDj.out, if_pos (by decide)] at hz
                            simp only [Prod.mk.injEq] at hz
                            obtain ⟨rfl, rfl, rfl⟩ := hz
                            clear h1 h2 h3 hzo HNC HDj
                            go_wp2_with fail
                            exact bodyPost_ret (v := .agg #[.int .i64 64, .int .i64 i, .int .i64 n]) (by simp [results, Tryz.results35, go_sem, *]) rfl ⟨rfl, ((hbt.setCell (by simp) _).setCell (by simp) _).setCell (by simp) _⟩
                · have hz := M3.out
                  rw [← HCN.out, HEC.out i hlt] at hz
                  simp only [Prod.mk.injEq] at hz
                  obtain ⟨rfl, rfl, rfl⟩ := hz
                  have hli2 : ¬ ((i : Int) < (funcs.length : Int)) := by omega
                  have F0 := FV.c0; have F1 := FV.c1; have F2 := FV.c2; have G0 := FV.f0 0; have G1 := FV.f0 1; have G2 := FV.f0 2
                  simp only at F0 F1 F2
                  go_wp2_with fail
                  exact bodyPost_ret (v := .agg #[.int .i64 0, .int .i64 0, .int .i64 0]) (by simp [results, Tryz.results35, go_sem, *]) rfl ⟨rfl, ((hbv.setCell (by simp) _).setCell (by simp) _).setCell (by simp) _⟩
end Go.Proofs.YtboidkmnkicoeaaGreatDoor
