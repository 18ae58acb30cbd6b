/- What is wrong with a function as a whole: checkHead. -/
import Derived.Test.YtfamomjgjamnoaaDoorCi
import Derived.Test.YtfamomjgjamnoaaDoorCc
import Derived.Test.YtfamomjgjamnoaaDoorJc
namespace Go.Proofs.YtfamomjgjamnoaaDoor
open Go.RowKit Go.Sort

/-- Behind the parameters. -/
def restZ (f : Fn) : Int × Int := if f.regs < 1 ∨ f.regs > 64 ∨ f.regs < f.params.length then (95, 0) else if f.words < 0 ∨ f.words > 4096 then (96, 0) else if f.code.length < 1 ∨ f.code.length > 1024 then (97, 0) else (0, 0)
theorem headZ_name {m : Mo} {f : Fn} {k : Nat} (h : idB f.name.data.toList = false) : headZ m f k = (8, 0) := by unfold headZ; rw [if_pos h]
theorem headZ_twice {m : Mo} {f : Fn} {k : Nat} (h : idB f.name.data.toList = true) (h2 : fndN m.funcs f.name 0 < k) : headZ m f k = (9, 0) := by unfold headZ; rw [if_neg (by rw [h]; decide), if_pos h2]
theorem headZ_many {m : Mo} {f : Fn} {k : Nat} (h : idB f.name.data.toList = true) (h2 : ¬ fndN m.funcs f.name 0 < k) (h3 : f.params.length > 8) : headZ m f k = (3, 8) := by unfold headZ; rw [if_neg (by rw [h]; decide), if_neg h2, if_pos h3]
theorem headZ_empty {m : Mo} {f : Fn} {k i : Nat} (h : idB f.name.data.toList = true) (h2 : ¬ fndN m.funcs f.name 0 < k) (h3 : ¬ f.params.length > 8) (h4 : emptN f.params 0 = some i) : headZ m f k = (40, (i : Int)) := by
  unfold headZ; rw [if_neg (by rw [h]; decide), if_neg h2, if_neg h3, h4]
theorem headZ_rest {m : Mo} {f : Fn} {k : Nat} (h : idB f.name.data.toList = true) (h2 : ¬ fndN m.funcs f.name 0 < k) (h3 : ¬ f.params.length > 8) (h4 : emptN f.params 0 = none) : headZ m f k = restZ f := by
  unfold headZ; rw [if_neg (by rw [h]; decide), if_neg h2, if_neg h3, h4]; rfl

set_option maxRecDepth 100000 in
set_option maxHeartbeats 4000000 in
theorem checkHead_any (m : Mo) (k : Nat) (w : World) (hm : m.In w) (f : Fn) (hk : m.funcs[k]? = some f) :
    Calls Tryd.prog 27 #[m.val, .int .i64 k] w fun e w' => e = .returned (.tuple #[.int .i64 (headZ m f k).1, .int .i64 (headZ m f k).2]) ∧ Below w.heap.size w w' := by
  obtain ⟨hk1, hk2⟩ := List.getElem?_eq_some_iff.1 hk
  have hb0 := Below.one (Below.refl _ w) (oM m)
  obtain ⟨b, o, ea, c0, c1, c2, c3, c4⟩ := fns_at (hm.2.2.1.stay hb0) hk1
  rw [hk2] at c0 c1 c2 c3 c4
  have hfl := hm.2.2.1.1
  have hfin := hm.2.2.2 f (List.mem_of_getElem? hk)
  have hki : (k : Int) < (m.funcs.length : Int) := by omega
  have hb := Below.one hb0 (oF f)
  have B := boxMF_new w m f
  have HP := Hid.mk' hfin.2.2.2.1
  have hcp := hfin.2.2.2.1.1
  have hcc := hfin.2.2.2.2.2.1.1
  have HI := Hid.mk' (isName_any f.name)
  have HFi : Hid (∀ (w' : World), Below w.heap.size w w' → Calls Tryd.prog 43 #[.agg #[.slice m.ta m.ths.length m.tc, .slice m.fa m.funcs.length m.fc], .string f.name] w' fun e w'' => e = .returned (.int .i64 (fndN m.funcs f.name 0)) ∧ Below w'.heap.size w' w'') :=
    fun w' hb => find_any m f.name w' (hm.2.2.1.stay hb)
  have HED : Hid (∀ (j : Nat) (s : Sp), f.params[j]? = some s → emptN (f.params.drop j) j = if s.1 > s.2 then some j else emptN (f.params.drop (j + 1)) (j + 1)) := fun j x h => by
    obtain ⟨h1, h2⟩ := List.getElem?_eq_some_iff.1 h
    rw [emptN_drop h1, h2]
  have HEN : Hid (∀ j, ¬ j < f.params.length → emptN (f.params.drop j) j = none) := fun j h => by rw [List.drop_eq_nil_of_le (by omega)]; rfl
  have H1 := Hid.mk' (headZ_name (m := m) (f := f) (k := k))
  have H2 := Hid.mk' (headZ_twice (m := m) (f := f) (k := k))
  have H3 := Hid.mk' (headZ_many (m := m) (f := f) (k := k))
  have H4 : Hid (∀ i, _ → _ → _ → _ → _) := fun i => headZ_empty (m := m) (f := f) (k := k) (i := i)
  have H5 := Hid.mk' (headZ_rest (m := m) (f := f) (k := k))
  have HR : Hid (restZ f = if f.regs < 1 ∨ f.regs > 64 ∨ f.regs < f.params.length then (95, 0) else if f.words < 0 ∨ f.words > 4096 then (96, 0) else if f.code.length < 1 ∨ f.code.length > 1024 then (97, 0) else (0, 0)) := (rfl : restZ f = _)
  have hblk : b < w.heap.size := by
    obtain ⟨b', o', e', d0, _⟩ := fns_at hm.2.2.1 hk1
    rw [ea] at e'; cases e'
    exact lt_of_cell d0
  clear hm hfin hk hk2 hk1
  generalize headZ m f k = Z at *
  generalize fndN m.funcs f.name 0 = fi at *
  generalize idB f.name.data.toList = id at *
  generalize restZ f = R at *
  obtain ⟨z1, z2⟩ := Z
  unfold oM oF at *
  obtain ⟨b0, b1, b2, b3, b4, b5, b6⟩ := B
  obtain ⟨name, pa, pc, params, regs, words, ca, cc, code⟩ := f
  unfold Mo.val
  simp only at *
  generalize m.fa = fa at *
  subst ea
  generalize m.funcs.length = FL at *
  generalize m.ths.length = TL at *
  generalize m.ta = ta at *
  generalize m.tc = tc at *
  generalize m.fc = fc at *
  cases id
  · obtain ⟨rfl, rfl⟩ := Prod.mk.inj (H1.out rfl)
    clear H1 H2 H3 H4 H5 HFi HED HEN HR
    go_enter Tryd.func27, Tryd.ntmps27
    go_wp2_with (go_at_call 42; refine (HI.out _).mono ?_; rintro e w1 ⟨rfl, rfl⟩)
    exact bodyPost_ret (v := .tuple #[.int .i64 8, .int .i64 0]) (by simp [results, Tryd.results27, go_sem]) rfl ⟨rfl, hb⟩
  · by_cases h2 : fi < (k : Int)
    · obtain ⟨rfl, rfl⟩ := Prod.mk.inj (H2.out rfl h2)
      clear H1 H2 H3 H4 H5 HED HEN HR
      go_enter Tryd.func27, Tryd.ntmps27
      go_wp2_with (first | (go_at_call 42; refine (HI.out _).mono ?_; rintro e w1 ⟨rfl, rfl⟩) | (go_at_call 43; refine (HFi.out _ hb).mono ?_; rintro e w2 ⟨rfl, hb2⟩))
      exact bodyPost_ret (v := .tuple #[.int .i64 9, .int .i64 0]) (by simp [results, Tryd.results27, go_sem]) rfl ⟨rfl, Below.on hb hb2⟩
    · by_cases h3 : params.length > 8
      · obtain ⟨rfl, rfl⟩ := Prod.mk.inj (H3.out rfl h2 h3)
        have h3' : decide ((8 : Int) < (params.length : Int)) = true := decide_eq_true (by omega)
        clear H1 H2 H3 H4 H5 HED HEN HR
        go_enter Tryd.func27, Tryd.ntmps27
        go_wp2_with (first | (go_at_call 42; refine (HI.out _).mono ?_; rintro e w1 ⟨rfl, rfl⟩) | (go_at_call 43; refine (HFi.out _ hb).mono ?_; rintro e w2 ⟨rfl, hb2⟩; replace b3 := cell_kept_below b3 hb2))
        exact bodyPost_ret (v := .tuple #[.int .i64 3, .int .i64 8]) (by simp [results, Tryd.results27, go_sem]) rfl ⟨rfl, Below.on hb hb2⟩
      · have h3' : ¬ ((8 : Int) < (params.length : Int)) := by omega
        have H4' : Hid (∀ i : Nat, emptN params 0 = some i → (z1, z2) = (40, (i : Int))) := fun i h => H4.out i rfl h2 h3 h
        have H5' : Hid (emptN params 0 = none → (z1, z2) = R) := fun h => H5.out rfl h2 h3 h
        clear H1 H2 H3 H4 H5 h3
        go_enter Tryd.func27, Tryd.ntmps27
        go_wp2_with (first | (go_at_call 42; refine (HI.out _).mono ?_; rintro e w1 ⟨rfl, rfl⟩) | (go_at_call 43; refine (HFi.out _ hb).mono ?_; rintro e w2 ⟨rfl, hb2⟩; replace b3 := cell_kept_below b3 hb2; replace b4 := cell_kept_below b4 hb2; replace b5 := cell_kept_below b5 hb2; replace b6 := cell_kept_below b6 hb2; replace hb := Below.on hb hb2; clear hb2))
        go_loopw [34] (fun t34 wr => ∃ (j : Nat), j ≤ params.length ∧ t34 = .int .i64 j ∧ emptN (params.drop j) j = emptN params 0 ∧ Below w2.heap.size w2 wr) (fun t34 _ => params.length - (intOf t34).toNat)
        case atStart => exact ⟨0, Nat.zero_le _, rfl, rfl, Below.refl _ _⟩
        case round =>
          obtain ⟨j, hj, rfl, hcnt, hbr⟩ := hrel
          have HCN := Hid.mk' hcnt
          clear hcnt
          have hbw := Below.on hb hbr
          by_cases hlt : j < params.length
          · obtain ⟨b', o', rfl, d0, d1⟩ := sps_at (HP.out.stay hbw) hlt
            have hli : (j : Int) < (params.length : Int) := by omega
            have HDj := Hid.mk' (HED.out j params[j] (by simp [hlt]))
            generalize params[j] = x at *
            clear b0 b1 b2 b3 b4 b5 b6 c0 c1 c2 c3 c4
            by_cases hI : x.2 < x.1
            · have hz := H4'.out j (by rw [← HCN.out, HDj.out, if_pos hI])
              obtain ⟨rfl, rfl⟩ := Prod.mk.inj hz
              clear hz
              go_wp2_with fail
              exact bodyPost_ret (v := .tuple #[.int .i64 40, .int .i64 j]) (by simp [results, Tryd.results27, go_sem]) rfl ⟨rfl, Below.one hbw _⟩
            · have hn' : emptN (params.drop (j + 1)) (j + 1) = emptN params 0 := by rw [← HCN.out, HDj.out, if_neg hI]
              have HN := Hid.mk' hn'
              clear hn'
              go_wp2_with fail
              go_roundw
              case rel => exact ⟨j + 1, by omega, by go_num, HN.out, Below.one hbr _⟩
              case measure => simp [intOf]; omega
          · have hz := H5'.out (by rw [← HCN.out, HEN.out j hlt])
            rw [HR.out] at hz
            replace b3 := cell_kept_below b3 hbr
            replace b4 := cell_kept_below b4 hbr
            replace b5 := cell_kept_below b5 hbr
            replace b6 := cell_kept_below b6 hbr
            clear H4' H5' HR HED HEN HCN c0 c1 c2 c3 c4
            by_cases r1 : regs < 1
            · rw [if_pos (.inl r1)] at hz
              obtain ⟨rfl, rfl⟩ := Prod.mk.inj hz
              clear hz
              go_wp2_with fail
              exact bodyPost_ret (v := .tuple #[.int .i64 95, .int .i64 0]) (by simp [results, Tryd.results27, go_sem]) rfl ⟨rfl, hbw⟩
            by_cases r2 : 64 < regs
            · rw [if_pos (.inr (.inl r2))] at hz
              obtain ⟨rfl, rfl⟩ := Prod.mk.inj hz
              clear hz
              go_wp2_with fail
              exact bodyPost_ret (v := .tuple #[.int .i64 95, .int .i64 0]) (by simp [results, Tryd.results27, go_sem]) rfl ⟨rfl, hbw⟩
            by_cases r3 : regs < (params.length : Int)
            · rw [if_pos (.inr (.inr r3))] at hz
              obtain ⟨rfl, rfl⟩ := Prod.mk.inj hz
              clear hz
              go_wp2_with fail
              exact bodyPost_ret (v := .tuple #[.int .i64 95, .int .i64 0]) (by simp [results, Tryd.results27, go_sem]) rfl ⟨rfl, hbw⟩
            rw [if_neg (fun h => h.elim r1 (fun h => h.elim r2 r3))] at hz
            by_cases r4 : words < 0
            · rw [if_pos (.inl r4)] at hz
              obtain ⟨rfl, rfl⟩ := Prod.mk.inj hz
              clear hz
              go_wp2_with fail
              exact bodyPost_ret (v := .tuple #[.int .i64 96, .int .i64 0]) (by simp [results, Tryd.results27, go_sem]) rfl ⟨rfl, hbw⟩
            by_cases r5 : 4096 < words
            · rw [if_pos (.inr r5)] at hz
              obtain ⟨rfl, rfl⟩ := Prod.mk.inj hz
              clear hz
              go_wp2_with fail
              exact bodyPost_ret (v := .tuple #[.int .i64 96, .int .i64 0]) (by simp [results, Tryd.results27, go_sem]) rfl ⟨rfl, hbw⟩
            rw [if_neg (fun h => h.elim r4 r5)] at hz
            by_cases r6 : code.length < 1
            · rw [if_pos (.inl r6)] at hz
              obtain ⟨rfl, rfl⟩ := Prod.mk.inj hz
              have r6' : decide ((code.length : Int) < 1) = true := decide_eq_true (by omega)
              clear hz
              go_wp2_with fail
              exact bodyPost_ret (v := .tuple #[.int .i64 97, .int .i64 0]) (by simp [results, Tryd.results27, go_sem]) rfl ⟨rfl, hbw⟩
            have r6' : ¬ ((code.length : Int) < 1) := by omega
            by_cases r7 : code.length > 1024
            · rw [if_pos (.inr r7)] at hz
              obtain ⟨rfl, rfl⟩ := Prod.mk.inj hz
              have r7' : decide ((1024 : Int) < (code.length : Int)) = true := decide_eq_true (by omega)
              clear hz
              go_wp2_with fail
              exact bodyPost_ret (v := .tuple #[.int .i64 97, .int .i64 0]) (by simp [results, Tryd.results27, go_sem]) rfl ⟨rfl, hbw⟩
            have r7' : ¬ ((1024 : Int) < (code.length : Int)) := by omega
            rw [if_neg (fun h => h.elim r6 r7)] at hz
            obtain ⟨rfl, rfl⟩ := Prod.mk.inj hz
            clear hz
            go_wp2_with fail
            exact bodyPost_ret (v := .tuple #[.int .i64 0, .int .i64 0]) (by simp [results, Tryd.results27, go_sem]) rfl ⟨rfl, hbw⟩
end Go.Proofs.YtfamomjgjamnoaaDoor
