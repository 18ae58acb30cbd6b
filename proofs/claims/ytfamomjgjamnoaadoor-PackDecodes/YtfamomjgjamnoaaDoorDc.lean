/- The document's own word on a function as a whole: wrong. -/
import Derived.Test.YtfamomjgjamnoaaDoorCj
namespace Go.Proofs.YtfamomjgjamnoaaDoor
open Go.RowKit Go.Sort

theorem fnd_first : ∀ (l : List Fn) (s : ByteArray) (i0 j : Nat) (f : Fn), l[j]? = some f → (f.name.toList == s.toList) = true → (∀ i g, i < j → l[i]? = some g → (g.name.toList == s.toList) = false) → fndN l s i0 = ((i0 + j : Nat) : Int)
  | [], _, _, _, _, h, _, _ => by simp at h
  | g :: r, s, i0, 0, f, h, he, _ => by simp at h; subst h; rw [fndN, if_pos he]; simp
  | g :: r, s, i0, j + 1, f, h, he, hn => by
    rw [fndN, if_neg (by rw [hn 0 g (by omega) (by simp)]; decide), fnd_first r s (i0 + 1) j f (by simpa using h) he (fun i g' hi hg => hn (i + 1) g' (by omega) (by simpa using hg))]
    congr 1; omega

set_option maxRecDepth 100000 in
set_option maxHeartbeats 8000000 in
theorem wrong_any (m : Mo) (k : Nat) (w : World) (hm : m.In w) (f : Fn) (hk : m.funcs[k]? = some f) :
    Calls Tryd.prog 33 #[m.val, .int .i64 k] w fun e w' => e = .returned (.tuple #[.int .i64 (headZ m f k).1, .int .i64 (headZ m f k).2]) ∧ Below w.heap.size w w' := by
  obtain ⟨hk1, hk2⟩ := List.getElem?_eq_some_iff.1 hk
  have hb0 := Below.one (Below.refl _ w) (oM m)
  obtain ⟨b, o, ea, c0, c1, c2, c3, c4⟩ := fns_at (hm.2.2.1.stay hb0) hk1
  rw [hk2] at c0 c1 c2 c3 c4
  have hfl := hm.2.2.1.1
  have hfin := hm.2.2.2 f (List.mem_of_getElem? hk)
  have hki : (k : Int) < (m.funcs.length : Int) := by omega
  have hb := Below.one hb0 (oF f)
  have B := boxMF_new w m f
  have HFn := Hid.mk' hm.2.2.1
  have HP := Hid.mk' hfin.2.2.2.1
  have hcp := hfin.2.2.2.1.1
  have hcc := hfin.2.2.2.2.2.1.1
  have HI := Hid.mk' (risName_any f.name)
  have HT : Hid (∀ j, j < k → (∀ i g, i < j → m.funcs[i]? = some g → (g.name.toList == f.name.toList) = false) → ∀ g, m.funcs[j]? = some g → (g.name.toList == f.name.toList) = true → fndN m.funcs f.name 0 < k) := fun j hj hn g hg he => by
    rw [fnd_first m.funcs f.name 0 j g hg he hn]; omega
  have HTN : Hid ((∀ i g, i < k → m.funcs[i]? = some g → (g.name.toList == f.name.toList) = false) → ¬ fndN m.funcs f.name 0 < k) := fun hn => by
    rw [fnd_first m.funcs f.name 0 k f hk (by simp) hn]; omega
  have HED : Hid (∀ (j : Nat) (s : Sp), f.params[j]? = some s → emptN (f.params.drop j) j = if s.1 > s.2 then some j else emptN (f.params.drop (j + 1)) (j + 1)) := fun j x h => by
    obtain ⟨h1, h2⟩ := List.getElem?_eq_some_iff.1 h
    rw [emptN_drop h1, h2]
  have HEN : Hid (∀ j, ¬ j < f.params.length → emptN (f.params.drop j) j = none) := fun j h => by rw [List.drop_eq_nil_of_le (by omega)]; rfl
  have H1 := Hid.mk' (headZ_name (m := m) (f := f) (k := k))
  have H2 := Hid.mk' (headZ_twice (m := m) (f := f) (k := k))
  have H3 := Hid.mk' (headZ_many (m := m) (f := f) (k := k))
  have H4 : Hid (∀ i, _ → _ → _ → _ → _) := fun i => headZ_empty (m := m) (f := f) (k := k) (i := i)
  have H5 := Hid.mk' (headZ_rest (m := m) (f := f) (k := k))
  have HR : Hid (restZ f = if f.regs < 1 ∨ f.regs > 64 ∨ f.regs < f.params.length then (95, 0) else if f.words < 0 ∨ f.words > 4096 then (96, 0) else if f.code.length < 1 ∨ f.code.length > 1024 then (97, 0) else (0, 0)) := (rfl : restZ f = _)
  have hblk : b < w.heap.size := by
    obtain ⟨b', o', e', d0, _⟩ := fns_at hm.2.2.1 hk1
    rw [ea] at e'; cases e'
    exact lt_of_cell d0
  clear hm hfin hk hk2 hk1
  generalize headZ m f k = Z at *
  generalize fndN m.funcs f.name 0 = fi at *
  generalize idB f.name.data.toList = id at *
  generalize restZ f = R at *
  obtain ⟨z1, z2⟩ := Z
  unfold oM oF at *
  obtain ⟨b0, b1, b2, b3, b4, b5, b6⟩ := B
  obtain ⟨name, pa, pc, params, regs, words, ca, cc, code⟩ := f
  obtain ⟨ta, tc, ths, fa, fc, funcs⟩ := m
  unfold Mo.val
  simp only at *
  subst ea
  generalize ths.length = TL at *
  cases id
  · obtain ⟨rfl, rfl⟩ := Prod.mk.inj (H1.out rfl)
    clear H1 H2 H3 H4 H5 HED HEN HR HT HTN
    go_enter Tryd.func33, Tryd.ntmps33
    go_wp2_with (go_at_call 48; refine (HI.out _).mono ?_; rintro e w1 ⟨rfl, rfl⟩)
    exact bodyPost_ret (v := .tuple #[.int .i64 8, .int .i64 0]) (by simp [results, Tryd.results33, go_sem]) rfl ⟨rfl, hb⟩
  · go_enter Tryd.func33, Tryd.ntmps33
    go_wp2_with (go_at_call 48; refine (HI.out _).mono ?_; rintro e w1 ⟨rfl, rfl⟩)
    generalize (w.alloc (.cells #[.slice ta TL tc, .slice (some ⟨b, o, none⟩) funcs.length fc] 25)).alloc (.cells #[.string name, .slice pa params.length pc, .int .i64 regs, .int .i64 words, .slice ca code.length cc] 45) = W at *
    go_loopw [8] (fun t8 wr => ∃ (j nq : Nat), j ≤ k ∧ t8 = .int .i64 j ∧ (∀ i g, i < j → funcs[i]? = some g → (g.name.toList == name.toList) = false) ∧ wr = W.drewN nq) (fun t8 _ => k - (intOf t8).toNat)
    case atStart => exact ⟨0, 0, Nat.zero_le _, rfl, fun i g h => by omega, rfl⟩
    case round =>
      obtain ⟨j, nq, hj, rfl, hcnt, rfl⟩ := hrel
      have HCN := Hid.mk' hcnt
      clear hcnt
      by_cases hlt : j < k
      · have hjl : j < funcs.length := by omega
        obtain ⟨b', o', ea, d0, d1, d2, d3, d4⟩ := fns_at (HFn.out.stay hb) hjl
        cases ea
        have hli : (j : Int) < (funcs.length : Int) := by omega
        have hlk : (j : Int) < (k : Int) := by omega
        have hg : funcs[j]? = some funcs[j] := by simp [hjl]
        have HTj := Hid.mk' (HT.out j hlt HCN.out funcs[j] hg)
        have HNx : Hid ((funcs[j].name.toList == name.toList) = false → ∀ i g, i < j + 1 → funcs[i]? = some g → (g.name.toList == name.toList) = false) := fun h i g hi hg' => by
          by_cases hij : i = j
          · subst hij; rw [hg] at hg'; cases hg'; exact h
          · exact HCN.out i g (by omega) hg'
        generalize funcs[j] = g at *
        clear hg c0 c1 c2 c3 c4 d1 d2 d3 d4
        cases ev : (g.name.toList == name.toList)
        · have HN := Hid.mk' (HNx.out ev)
          clear HNx HTj
          go_wp2_with fail
          go_quiet (fail)
          go_wp2_with fail
          go_roundw
          case rel => exact ⟨j + 1, _, by omega, by go_num, HN.out, rfl⟩
          case measure => simp [intOf]; omega
        · obtain ⟨rfl, rfl⟩ := Prod.mk.inj (H2.out trivial (HTj.out ev))
          clear HNx HTj
          go_wp2_with fail
          go_quiet (fail)
          go_wp2_with fail
          exact bodyPost_ret (v := .tuple #[.int .i64 9, .int .i64 0]) (by simp [results, Tryd.results33, go_sem]) rfl ⟨rfl, (hb.drewN _).drewN _⟩
      · have hjk : j = k := by omega
        have h2 := HTN.out (by rw [← hjk]; exact HCN.out)
        have hlk : ¬ ((j : Int) < (k : Int)) := by omega
        clear hlt HCN hjk HT HTN
        by_cases h3 : params.length > 8
        · obtain ⟨rfl, rfl⟩ := Prod.mk.inj (H3.out trivial h2 h3)
          have h3' : decide ((8 : Int) < (params.length : Int)) = true := decide_eq_true (by omega)
          clear H1 H2 H3 H4 H5 HED HEN HR
          go_wp2_with fail
          exact bodyPost_ret (v := .tuple #[.int .i64 3, .int .i64 8]) (by simp [results, Tryd.results33, go_sem]) rfl ⟨rfl, hb.drewN _⟩
        · have h3' : ¬ ((8 : Int) < (params.length : Int)) := by omega
          have H4' : Hid (∀ i : Nat, emptN params 0 = some i → (z1, z2) = (40, (i : Int))) := fun i h => H4.out i trivial h2 h3 h
          have H5' : Hid (emptN params 0 = none → (z1, z2) = R) := fun h => H5.out trivial h2 h3 h
          clear H1 H2 H3 H4 H5 h3
          go_wp2_with fail
          have hbW := hb.drewN nq
          replace b3 := cell_kept_below b3 ((Below.refl _ W).drewN nq)
          replace b4 := cell_kept_below b4 ((Below.refl _ W).drewN nq)
          replace b5 := cell_kept_below b5 ((Below.refl _ W).drewN nq)
          replace b6 := cell_kept_below b6 ((Below.refl _ W).drewN nq)
          replace HP := Hid.mk' (HP.out.stay hbW)
          clear b0 b1 b2 c0 c1 c2 c3 c4 hb HFn
          generalize W.drewN nq = V at *
          go_loopw [9] (fun t9 wr => ∃ (j nq : Nat), j ≤ params.length ∧ t9 = .int .i64 j ∧ emptN (params.drop j) j = emptN params 0 ∧ wr = V.drewN nq) (fun t9 _ => params.length - (intOf t9).toNat)
          case atStart => exact ⟨0, 0, Nat.zero_le _, rfl, rfl, rfl⟩
          case round =>
            obtain ⟨j, np, hj, rfl, hcnt, rfl⟩ := hrel
            have HCN := Hid.mk' hcnt
            clear hcnt
            have hbw := hbW.drewN np
            by_cases hlt : j < params.length
            · obtain ⟨b', o', rfl, d0, d1⟩ := sps_at HP.out hlt
              have hli : (j : Int) < (params.length : Int) := by omega
              have HDj := Hid.mk' (HED.out j params[j] (by simp [hlt]))
              generalize params[j] = x at *
              by_cases hI : x.2 < x.1
              · have hz := H4'.out j (by rw [← HCN.out, HDj.out, if_pos hI])
                obtain ⟨rfl, rfl⟩ := Prod.mk.inj hz
                clear hz
                have q := decide_eq_true hI
                go_wp2_with fail
                go_quiet (fail)
                go_wp2_with fail
                exact bodyPost_ret (v := .tuple #[.int .i64 40, .int .i64 j]) (by simp [results, Tryd.results33, go_sem]) rfl ⟨rfl, (hbW.drewN _).drewN _⟩
              · have hn' : emptN (params.drop (j + 1)) (j + 1) = emptN params 0 := by rw [← HCN.out, HDj.out, if_neg hI]
                have HN := Hid.mk' hn'
                clear hn'
                have q : decide (x.2 < x.1) = false := decide_eq_false hI
                go_wp2_with fail
                go_quiet (fail)
                go_wp2_with fail
                go_roundw
                case rel => exact ⟨j + 1, _, by omega, by go_num, HN.out, rfl⟩
                case measure => simp [intOf]; omega
            · have hz := H5'.out (by rw [← HCN.out, HEN.out j hlt])
              rw [HR.out] at hz
              clear H4' H5' HR HED HEN HCN
              by_cases r1 : regs < 1
              · rw [if_pos (.inl r1)] at hz
                obtain ⟨rfl, rfl⟩ := Prod.mk.inj hz
                clear hz
                go_wp2_with fail
                exact bodyPost_ret (v := .tuple #[.int .i64 95, .int .i64 0]) (by simp [results, Tryd.results33, go_sem]) rfl ⟨rfl, hbw⟩
              by_cases r2 : 64 < regs
              · rw [if_pos (.inr (.inl r2))] at hz
                obtain ⟨rfl, rfl⟩ := Prod.mk.inj hz
                clear hz
                go_wp2_with fail
                exact bodyPost_ret (v := .tuple #[.int .i64 95, .int .i64 0]) (by simp [results, Tryd.results33, go_sem]) rfl ⟨rfl, hbw⟩
              by_cases r3 : regs < (params.length : Int)
              · rw [if_pos (.inr (.inr r3))] at hz
                obtain ⟨rfl, rfl⟩ := Prod.mk.inj hz
                clear hz
                go_wp2_with fail
                exact bodyPost_ret (v := .tuple #[.int .i64 95, .int .i64 0]) (by simp [results, Tryd.results33, go_sem]) rfl ⟨rfl, hbw⟩
              rw [if_neg (fun h => h.elim r1 (fun h => h.elim r2 r3))] at hz
              by_cases r4 : words < 0
              · rw [if_pos (.inl r4)] at hz
                obtain ⟨rfl, rfl⟩ := Prod.mk.inj hz
                clear hz
                go_wp2_with fail
                exact bodyPost_ret (v := .tuple #[.int .i64 96, .int .i64 0]) (by simp [results, Tryd.results33, go_sem]) rfl ⟨rfl, hbw⟩
              by_cases r5 : 4096 < words
              · rw [if_pos (.inr r5)] at hz
                obtain ⟨rfl, rfl⟩ := Prod.mk.inj hz
                clear hz
                go_wp2_with fail
                exact bodyPost_ret (v := .tuple #[.int .i64 96, .int .i64 0]) (by simp [results, Tryd.results33, go_sem]) rfl ⟨rfl, hbw⟩
              rw [if_neg (fun h => h.elim r4 r5)] at hz
              by_cases r6 : code.length < 1
              · rw [if_pos (.inl r6)] at hz
                obtain ⟨rfl, rfl⟩ := Prod.mk.inj hz
                have r6' : decide ((code.length : Int) < 1) = true := decide_eq_true (by omega)
                clear hz
                go_wp2_with fail
                exact bodyPost_ret (v := .tuple #[.int .i64 97, .int .i64 0]) (by simp [results, Tryd.results33, go_sem]) rfl ⟨rfl, hbw⟩
              have r6' : ¬ ((code.length : Int) < 1) := by omega
              by_cases r7 : code.length > 1024
              · rw [if_pos (.inr r7)] at hz
                obtain ⟨rfl, rfl⟩ := Prod.mk.inj hz
                have r7' : decide ((1024 : Int) < (code.length : Int)) = true := decide_eq_true (by omega)
                clear hz
                go_wp2_with fail
                exact bodyPost_ret (v := .tuple #[.int .i64 97, .int .i64 0]) (by simp [results, Tryd.results33, go_sem]) rfl ⟨rfl, hbw⟩
              have r7' : ¬ ((1024 : Int) < (code.length : Int)) := by omega
              rw [if_neg (fun h => h.elim r6 r7)] at hz
              obtain ⟨rfl, rfl⟩ := Prod.mk.inj hz
              clear hz
              go_wp2_with fail
              exact bodyPost_ret (v := .tuple #[.int .i64 0, .int .i64 0]) (by simp [results, Tryd.results33, go_sem]) rfl ⟨rfl, hbw⟩
end Go.Proofs.YtfamomjgjamnoaaDoor
