/- What is wrong with a function as a whole: checkHead. What is wrong with a module first: checkWhole, May. code.May. -/
import Derived.Test.YtfmkjdfidenfkaaDoorZab
import Derived.Test.YtfmkjdfidenfkaaDoorZac
namespace Go.Proofs.YtfmkjdfidenfkaaDoor
open Go.RowKit Go.Sort

/-- Behind the parameters. -/
def restZ (f : Fn) : Int × Int := if f.regs < 1 ∨ f.regs > 64 ∨ f.regs < f.params.length then (95, 0) else if f.words < 0 ∨ f.words > 4096 then (96, 0) else if f.code.length < 1 ∨ f.code.length > 1024 then (97, 0) else (0, 0)
theorem headZ_name {m : Mo} {f : Fn} {k : Nat} (h : idB f.name.data.toList = false) : headZ m f k = (8, 0) := by unfold headZ; rw [if_pos h]
theorem headZ_twice {m : Mo} {f : Fn} {k : Nat} (h : idB f.name.data.toList = true) (h2 : fndN m.funcs f.name 0 < k) : headZ m f k = (9, 0) := by unfold headZ; rw [if_neg (by rw [h]; decide), if_pos h2]
theorem headZ_many {m : Mo} {f : Fn} {k : Nat} (h : idB f.name.data.toList = true) (h2 : ¬ fndN m.funcs f.name 0 < k) (h3 : f.params.length > 8) : headZ m f k = (3, 8) := by unfold headZ; rw [if_neg (by rw [h]; decide), if_neg h2, if_pos h3]
theorem headZ_empty {m : Mo} {f : Fn} {k i : Nat} (h : idB f.name.data.toList = true) (h2 : ¬ fndN m.funcs f.name 0 < k) (h3 : ¬ f.params.length > 8) (h4 : emptN f.params 0 = some i) : headZ m f k = (40, (i : Int)) := by
  unfold headZ; rw [if_neg (by rw [h]; decide), if_neg h2, if_neg h3, h4]
theorem headZ_rest {m : Mo} {f : Fn} {k : Nat} (h : idB f.name.data.toList = true) (h2 : ¬ fndN m.funcs f.name 0 < k) (h3 : ¬ f.params.length > 8) (h4 : emptN f.params 0 = none) : headZ m f k = restZ f := by
  unfold headZ; rw [if_neg (by rw [h]; decide), if_neg h2, if_neg h3, h4]; rfl

set_option maxRecDepth 100000 in
set_option maxHeartbeats 4000000 in
theorem checkHead_any (m : Mo) (k : Nat) (w : World) (hm : m.In w) (f : Fn) (hk : m.funcs[k]? = some f) :
    Calls Tryd.prog 43 #[m.val, .int .i64 k] w fun e w' => e = .returned (.tuple #[.int .i64 (headZ m f k).1, .int .i64 (headZ m f k).2]) ∧ Below w.heap.size w w' := by
  obtain ⟨hk1, hk2⟩ := List.getElem?_eq_some_iff.1 hk
  have hb0 := Below.one (Below.refl _ w) (oM m)
  obtain ⟨b, o, ea, c0, c1, c2, c3, c4⟩ := fns_at (hm.2.2.1.stay hb0) hk1
  rw [hk2] at c0 c1 c2 c3 c4
  have hfl := hm.2.2.1.1
  have hfin := hm.2.2.2 f (List.mem_of_getElem? hk)
  have hki : (k : Int) < (m.funcs.length : Int) := by omega
  have hb := Below.one hb0 (oF f)
  have B := boxMF_new w m f
  have HP := Hid.mk' hfin.2.2.2.1
  have hcp := hfin.2.2.2.1.1
  have hcc := hfin.2.2.2.2.2.1.1
  have HI := Hid.mk' (isName_any f.name)
  have HFi : Hid (∀ (w' : World), Below w.heap.size w w' → Calls Tryd.prog 72 #[.agg #[.slice m.ta m.ths.length m.tc, .slice m.fa m.funcs.length m.fc], .string f.name] w' fun e w'' => e = .returned (.int .i64 (fndN m.funcs f.name 0)) ∧ Below w'.heap.size w' w'') :=
    fun w' hb => find_any m f.name w' (hm.2.2.1.stay hb)
  have HED : Hid (∀ (j : Nat) (s : Sp), f.params[j]? = some s → emptN (f.params.drop j) j = if s.1 > s.2 then some j else emptN (f.params.drop (j + 1)) (j + 1)) := fun j x h => by
    obtain ⟨h1, h2⟩ := List.getElem?_eq_some_iff.1 h
    rw [emptN_drop h1, h2]
  have HEN : Hid (∀ j, ¬ j < f.params.length → emptN (f.params.drop j) j = none) := fun j h => by rw [List.drop_eq_nil_of_le (by omega)]; rfl
  have H1 := Hid.mk' (headZ_name (m := m) (f := f) (k := k))
  have H2 := Hid.mk' (headZ_twice (m := m) (f := f) (k := k))
  have H3 := Hid.mk' (headZ_many (m := m) (f := f) (k := k))
  have H4 : Hid (∀ i, _ → _ → _ → _ → _) := fun i => headZ_empty (m := m) (f := f) (k := k) (i := i)
  have H5 := Hid.mk' (headZ_rest (m := m) (f := f) (k := k))
  have HR : Hid (restZ f = if f.regs < 1 ∨ f.regs > 64 ∨ f.regs < f.params.length then (95, 0) else if f.words < 0 ∨ f.words > 4096 then (96, 0) else if f.code.length < 1 ∨ f.code.length > 1024 then (97, 0) else (0, 0)) := (rfl : restZ f = _)
  have hblk : b < w.heap.size := by
    obtain ⟨b', o', e', d0, _⟩ := fns_at hm.2.2.1 hk1
    rw [ea] at e'; cases e'
    exact lt_of_cell d0
  clear hm hfin hk hk2 hk1
  generalize headZ m f k = Z at *
  generalize fndN m.funcs f.name 0 = fi at *
  generalize idB f.name.data.toList = id at *
  generalize restZ f = R at *
  obtain ⟨z1, z2⟩ := Z
  unfold oM oF at *
  obtain ⟨b0, b1, b2, b3, b4, b5, b6⟩ := B
  obtain ⟨name, pa, pc, params, regs, words, ca, cc, code⟩ := f
  unfold Mo.val
  simp only at *
  generalize m.fa = fa at *
  subst ea
  generalize m.funcs.length = FL at *
  generalize m.ths.length = TL at *
  generalize m.ta = ta at *
  generalize m.tc = tc at *
  generalize m.fc = fc at *
  cases id
  · obtain ⟨rfl, rfl⟩ := Prod.mk.inj (H1.out rfl)
    clear H1 H2 H3 H4 H5 HFi HED HEN HR
    go_enter Tryd.func43, Tryd.ntmps43
    go_wp2_with (go_at_call 71; refine (HI.out _).mono ?_; rintro e w1 ⟨rfl, rfl⟩)
    exact bodyPost_ret (v := .tuple #[.int .i64 8, .int .i64 0]) (by simp [results, Tryd.results43, go_sem]) rfl ⟨rfl, hb⟩
  · by_cases h2 : fi < (k : Int)
    · obtain ⟨rfl, rfl⟩ := Prod.mk.inj (H2.out rfl h2)
      clear H1 H2 H3 H4 H5 HED HEN HR
      go_enter Tryd.func43, Tryd.ntmps43
      go_wp2_with (first | (go_at_call 71; refine (HI.out _).mono ?_; rintro e w1 ⟨rfl, rfl⟩) | (go_at_call 72; refine (HFi.out _ hb).mono ?_; rintro e w2 ⟨rfl, hb2⟩))
      exact bodyPost_ret (v := .tuple #[.int .i64 9, .int .i64 0]) (by simp [results, Tryd.results43, go_sem]) rfl ⟨rfl, Below.on hb hb2⟩
    · by_cases h3 : params.length > 8
      · obtain ⟨rfl, rfl⟩ := Prod.mk.inj (H3.out rfl h2 h3)
        have h3' : decide ((8 : Int) < (params.length : Int)) = true := decide_eq_true (by omega)
        clear H1 H2 H3 H4 H5 HED HEN HR
        go_enter Tryd.func43, Tryd.ntmps43
        go_wp2_with (first | (go_at_call 71; refine (HI.out _).mono ?_; rintro e w1 ⟨rfl, rfl⟩) | (go_at_call 72; refine (HFi.out _ hb).mono ?_; rintro e w2 ⟨rfl, hb2⟩; replace b3 := cell_kept_below b3 hb2))
        exact bodyPost_ret (v := .tuple #[.int .i64 3, .int .i64 8]) (by simp [results, Tryd.results43, go_sem]) rfl ⟨rfl, Below.on hb hb2⟩
      · have h3' : ¬ ((8 : Int) < (params.length : Int)) := by omega
        have H4' : Hid (∀ i : Nat, emptN params 0 = some i → (z1, z2) = (40, (i : Int))) := fun i h => H4.out i rfl h2 h3 h
        have H5' : Hid (emptN params 0 = none → (z1, z2) = R) := fun h => H5.out rfl h2 h3 h
        clear H1 H2 H3 H4 H5 h3
        go_enter Tryd.func43, Tryd.ntmps43
        go_wp2_with (first | (go_at_call 71; refine (HI.out _).mono ?_; rintro e w1 ⟨rfl, rfl⟩) | (go_at_call 72; refine (HFi.out _ hb).mono ?_; rintro e w2 ⟨rfl, hb2⟩; replace b3 := cell_kept_below b3 hb2; replace b4 := cell_kept_below b4 hb2; replace b5 := cell_kept_below b5 hb2; replace b6 := cell_kept_below b6 hb2; replace hb := Below.on hb hb2; clear hb2))
        go_loopw [34] (fun t34 wr => ∃ (j : Nat), j ≤ params.length ∧ t34 = .int .i64 j ∧ emptN (params.drop j) j = emptN params 0 ∧ Below w2.heap.size w2 wr) (fun t34 _ => params.length - (intOf t34).toNat)
        case atStart => exact ⟨0, Nat.zero_le _, rfl, rfl, Below.refl _ _⟩
        case round =>
          obtain ⟨j, hj, rfl, hcnt, hbr⟩ := hrel
          have HCN := Hid.mk' hcnt
          clear hcnt
          have hbw := Below.on hb hbr
          by_cases hlt : j < params.length
          · obtain ⟨b', o', rfl, d0, d1⟩ := sps_at (HP.out.stay hbw) hlt
            have hli : (j : Int) < (params.length : Int) := by omega
            have HDj := Hid.mk' (HED.out j params[j] (by simp [hlt]))
            generalize params[j] = x at *
            clear b0 b1 b2 b3 b4 b5 b6 c0 c1 c2 c3 c4
            by_cases hI : x.2 < x.1
            · have hz := H4'.out j (by rw [← HCN.out, HDj.out, if_pos hI])
              obtain ⟨rfl, rfl⟩ := Prod.mk.inj hz
              clear hz
              go_wp2_with fail
              exact bodyPost_ret (v := .tuple #[.int .i64 40, .int .i64 j]) (by simp [results, Tryd.results43, go_sem]) rfl ⟨rfl, Below.one hbw _⟩
            · have hn' : emptN (params.drop (j + 1)) (j + 1) = emptN params 0 := by rw [← HCN.out, HDj.out, if_neg hI]
              have HN := Hid.mk' hn'
              clear hn'
              go_wp2_with fail
              go_roundw
              case rel => exact ⟨j + 1, by omega, by go_num, HN.out, Below.one hbr _⟩
              case measure => simp [intOf]; omega
          · have hz := H5'.out (by rw [← HCN.out, HEN.out j hlt])
            rw [HR.out] at hz
            replace b3 := cell_kept_below b3 hbr
            replace b4 := cell_kept_below b4 hbr
            replace b5 := cell_kept_below b5 hbr
            replace b6 := cell_kept_below b6 hbr
            clear H4' H5' HR HED HEN HCN c0 c1 c2 c3 c4
            by_cases r1 : regs < 1
            · rw [if_pos (.inl r1)] at hz
              obtain ⟨rfl, rfl⟩ := Prod.mk.inj hz
              clear hz
              go_wp2_with fail
              exact bodyPost_ret (v := .tuple #[.int .i64 95, .int .i64 0]) (by simp [results, Tryd.results43, go_sem]) rfl ⟨rfl, hbw⟩
            by_cases r2 : 64 < regs
            · rw [if_pos (.inr (.inl r2))] at hz
              obtain ⟨rfl, rfl⟩ := Prod.mk.inj hz
              clear hz
              go_wp2_with fail
              exact bodyPost_ret (v := .tuple #[.int .i64 95, .int .i64 0]) (by simp [results, Tryd.results43, go_sem]) rfl ⟨rfl, hbw⟩
            by_cases r3 : regs < (params.length : Int)
            · rw [if_pos (.inr (.inr r3))] at hz
              obtain ⟨rfl, rfl⟩ := Prod.mk.inj hz
              clear hz
              go_wp2_with fail
              exact bodyPost_ret (v := .tuple #[.int .i64 95, .int .i64 0]) (by simp [results, Tryd.results43, go_sem]) rfl ⟨rfl, hbw⟩
            rw [if_neg (fun h => h.elim r1 (fun h => h.elim r2 r3))] at hz
            by_cases r4 : words < 0
            · rw [if_pos (.inl r4)] at hz
              obtain ⟨rfl, rfl⟩ := Prod.mk.inj hz
              clear hz
              go_wp2_with fail
              exact bodyPost_ret (v := .tuple #[.int .i64 96, .int .i64 0]) (by simp [results, Tryd.results43, go_sem]) rfl ⟨rfl, hbw⟩
            by_cases r5 : 4096 < words
            · rw [if_pos (.inr r5)] at hz
              obtain ⟨rfl, rfl⟩ := Prod.mk.inj hz
              clear hz
              go_wp2_with fail
              exact bodyPost_ret (v := .tuple #[.int .i64 96, .int .i64 0]) (by simp [results, Tryd.results43, go_sem]) rfl ⟨rfl, hbw⟩
            rw [if_neg (fun h => h.elim r4 r5)] at hz
            by_cases r6 : code.length < 1
            · rw [if_pos (.inl r6)] at hz
              obtain ⟨rfl, rfl⟩ := Prod.mk.inj hz
              have r6' : decide ((code.length : Int) < 1) = true := decide_eq_true (by omega)
              clear hz
              go_wp2_with fail
              exact bodyPost_ret (v := .tuple #[.int .i64 97, .int .i64 0]) (by simp [results, Tryd.results43, go_sem]) rfl ⟨rfl, hbw⟩
            have r6' : ¬ ((code.length : Int) < 1) := by omega
            by_cases r7 : code.length > 1024
            · rw [if_pos (.inr r7)] at hz
              obtain ⟨rfl, rfl⟩ := Prod.mk.inj hz
              have r7' : decide ((1024 : Int) < (code.length : Int)) = true := decide_eq_true (by omega)
              clear hz
              go_wp2_with fail
              exact bodyPost_ret (v := .tuple #[.int .i64 97, .int .i64 0]) (by simp [results, Tryd.results43, go_sem]) rfl ⟨rfl, hbw⟩
            have r7' : ¬ ((1024 : Int) < (code.length : Int)) := by omega
            rw [if_neg (fun h => h.elim r6 r7)] at hz
            obtain ⟨rfl, rfl⟩ := Prod.mk.inj hz
            clear hz
            go_wp2_with fail
            exact bodyPost_ret (v := .tuple #[.int .i64 0, .int .i64 0]) (by simp [results, Tryd.results43, go_sem]) rfl ⟨rfl, hbw⟩
end Go.Proofs.YtfmkjdfidenfkaaDoor
namespace Go.Proofs.YtfmkjdfidenfkaaDoor
open Go.RowKit Go.Sort

/-- A block holds a fault. -/
def FAt (W : World) (g : Nat) (z : Int × Int × Int) : Prop := W.heap[g]? = some (.cells #[.int .i64 z.1, .int .i64 z.2.1, .int .i64 z.2.2] 46)
theorem FAt.lt {W : World} {g : Nat} {z : Int × Int × Int} (h : FAt W g z) : g < W.heap.size := (Array.getElem?_eq_some_iff.1 h).1
theorem FAt.stay {W W' : World} {g : Nat} {z : Int × Int × Int} (h : FAt W g z) (hb : Below W.heap.size W W') : FAt W' g z := (hb.block _ h.lt).trans h
theorem FAt.c0 {W : World} {g : Nat} {z : Int × Int × Int} (h : FAt W g z) : W.cell? ⟨g, 0, none⟩ = some (.int .i64 z.1) := by rw [Lib.cell_of_heap h]; rfl
theorem FAt.c1 {W : World} {g : Nat} {z : Int × Int × Int} (h : FAt W g z) : W.cell? ⟨g, 1, none⟩ = some (.int .i64 z.2.1) := by rw [Lib.cell_of_heap h]; rfl
theorem FAt.c2 {W : World} {g : Nat} {z : Int × Int × Int} (h : FAt W g z) : W.cell? ⟨g, 2, none⟩ = some (.int .i64 z.2.2) := by rw [Lib.cell_of_heap h]; rfl
theorem FAt.f0 {W : World} {g : Nat} {z : Int × Int × Int} (h : FAt W g z) (j : Nat) : W.frozen? ⟨g, j, none⟩ = false := Lib.frozen_of_heap h _
theorem FAt.new (W : World) (z : Int × Int × Int) : FAt (W.alloc (.cells #[.int .i64 z.1, .int .i64 z.2.1, .int .i64 z.2.2] 46)) W.heap.size z := heap_alloc_new _ _

theorem riseN_drop {l : List Int} {i : Nat} (h : i + 1 < l.length) : riseN (l.drop i) i = if l[i + 1] ≤ l[i] then some (i + 1) else riseN (l.drop (i + 1)) (i + 1) := by
  rw [List.drop_eq_getElem_cons (show i < l.length by omega), List.drop_eq_getElem_cons h, riseN]
theorem riseN_end {l : List Int} {i : Nat} (h : ¬ i + 1 < l.length) : riseN (l.drop i) i = none := by
  have : (l.drop i).length ≤ 1 := by rw [List.length_drop]; omega
  match l.drop i, this with
  | [], _ => rfl
  | [_], _ => rfl
theorem wholeZ_many {m : Mo} (h : m.ths.length > 16) : wholeZ m = (3, 0, 16) := by unfold wholeZ; rw [if_pos h]
theorem wholeZ_rise {m : Mo} {i : Nat} (h : ¬ m.ths.length > 16) (h2 : riseN m.ths 0 = some i) : wholeZ m = (66, 0, (i : Int)) := by unfold wholeZ; rw [if_neg h, h2]
theorem wholeZ_rest {m : Mo} (h : ¬ m.ths.length > 16) (h2 : riseN m.ths 0 = none) : wholeZ m = if m.funcs.length > 32 then (3, 32, 0) else (0, 0, 0) := by unfold wholeZ; rw [if_neg h, h2]

set_option maxRecDepth 100000 in
set_option maxHeartbeats 4000000 in
theorem checkWhole_any (m : Mo) (w : World) (hm : Thr w m.ta m.ths) (hf : m.funcs.length * 80 ≤ 140737488351232) :
    Calls Tryd.prog 42 #[m.val] w fun e w' => e = .returned (fltV (wholeZ m)) ∧ Below w.heap.size w w' := by
  have hb := Below.one (Below.one (Below.refl _ w) (oM m)) (.cells #[.int .i64 0, .int .i64 0, .int .i64 0] 46)
  have b0 := cell_kept_below (new_cell w #[.slice m.ta m.ths.length m.tc, .slice m.fa m.funcs.length m.fc] 25 0 _ rfl) (Below.one (Below.refl _ _) (.cells #[.int .i64 0, .int .i64 0, .int .i64 0] 46))
  have b1 := cell_kept_below (new_cell w #[.slice m.ta m.ths.length m.tc, .slice m.fa m.funcs.length m.fc] 25 1 _ rfl) (Below.one (Below.refl _ _) (.cells #[.int .i64 0, .int .i64 0, .int .i64 0] 46))
  have F := FAt.new (w.alloc (oM m)) (0, 0, 0)
  rw [World.size_alloc] at F
  have HM := Hid.mk' (hm.stay hb)
  have hc := hm.1
  have H1 := Hid.mk' (wholeZ_many (m := m))
  have H2 : Hid (∀ i : Nat, ¬ m.ths.length > 16 → riseN m.ths 0 = some i → wholeZ m = (66, 0, (i : Int))) := fun i => wholeZ_rise
  have H3 := Hid.mk' (wholeZ_rest (m := m))
  generalize wholeZ m = Z at *
  obtain ⟨z0, z1, z2⟩ := Z
  clear hm
  obtain ⟨ta, tc, ths, fa, fc, funcs⟩ := m
  unfold Mo.val fltV
  unfold oM at *
  simp only at *
  by_cases h1 : ths.length > 16
  · have e := H1.out h1
    simp only [Prod.mk.injEq] at e
    obtain ⟨rfl, rfl, rfl⟩ := e
    have h1' : decide ((16 : Int) < (ths.length : Int)) = true := decide_eq_true (by omega)
    clear H1 H2 H3 HM
    go_enter Tryd.func42, Tryd.ntmps42
    go_wp2_with fail
    exact bodyPost_ret (v := .agg #[.int .i64 3, .int .i64 0, .int .i64 16]) (by simp [results, Tryd.results42, go_sem]) rfl ⟨rfl, Below.one (Below.one (Below.refl _ w) _) _⟩
  · have h1' : ¬ ((16 : Int) < (ths.length : Int)) := by omega
    have H2' : Hid (∀ i : Nat, riseN ths 0 = some i → (z0, z1, z2) = (66, 0, (i : Int))) := fun i h => H2.out i h1 h
    have H3' : Hid (riseN ths 0 = none → (z0, z1, z2) = if funcs.length > 32 then (3, 32, 0) else (0, 0, 0)) := fun h => H3.out h1 h
    clear H1 H2 H3 h1
    go_enter Tryd.func42, Tryd.ntmps42
    go_wp2_with fail
    generalize (w.alloc (.cells #[.slice ta ths.length tc, .slice fa funcs.length fc] 25)).alloc (.cells #[.int .i64 0, .int .i64 0, .int .i64 0] 46) = W at *
    go_loopw [3] (fun t3 wr => ∃ (i nq : Nat), (i = 0 ∨ i + 1 ≤ ths.length) ∧ t3 = .int .i64 ((i : Int) + 1) ∧ riseN (ths.drop i) i = riseN ths 0 ∧ wr = W.drewN nq) (fun t3 _ => ths.length - (intOf t3).toNat)
    case atStart => exact ⟨0, 0, .inl rfl, rfl, rfl, rfl⟩
    case round =>
      obtain ⟨i, nq, hi, rfl, hcnt, rfl⟩ := hrel
      have HCN := Hid.mk' hcnt
      clear hcnt
      by_cases hlt : i + 1 < ths.length
      · obtain ⟨b', o', ea, d0⟩ := thr_at HM.out hlt
        obtain ⟨b'', o'', rfl, d1⟩ := thr_at HM.out (show i < ths.length by omega)
        cases ea
        have hli : (i : Int) + 1 < (ths.length : Int) := by omega
        have hli2 : (i : Int) < (ths.length : Int) := by omega
        have hsub : (i : Int) + 1 - 1 = i := by omega
        have htn : ((i : Int) + 1).toNat = i + 1 := by omega
        have HDj := Hid.mk' (riseN_drop hlt)
        generalize ths[i + 1] = x at *
        generalize ths[i] = y at *
        by_cases hI : x ≤ y
        · have hz := H2'.out (i + 1) (by rw [← HCN.out, HDj.out, if_pos hI])
          simp only [Prod.mk.injEq] at hz
          obtain ⟨rfl, rfl, rfl⟩ := hz
          have q := decide_eq_true hI
          have F0 := F.c0; have F1 := F.c1; have F2 := F.c2; have G0 := F.f0 0; have G1 := F.f0 1; have G2 := F.f0 2
          simp only at F0 F1 F2
          go_wp2_with fail
          go_quiet (fail)
          go_wp2_with fail
          exact bodyPost_ret (v := .agg #[.int .i64 66, .int .i64 0, .int .i64 ((i : Int) + 1)]) (by simp [results, Tryd.results42, go_sem, *]) rfl ⟨rfl, (((hb.drewN _).setCell (by simp) _).setCell (by simp) _).setCell (by simp) _⟩
        · have q : decide (x ≤ y) = false := decide_eq_false hI
          have hn' : riseN (ths.drop (i + 1)) (i + 1) = riseN ths 0 := by rw [← HCN.out, HDj.out, if_neg hI]
          have HN := Hid.mk' hn'
          clear hn'
          go_wp2_with fail
          go_quiet (fail)
          go_wp2_with fail
          go_roundw
          case rel => exact ⟨i + 1, _, .inr (by omega), by go_num, HN.out, rfl⟩
          case measure => simp [intOf]; omega
      · have hz := H3'.out (by rw [← HCN.out, riseN_end hlt])
        have hli : ¬ ((i : Int) + 1 < (ths.length : Int)) := by omega
        have F0 := F.c0; have F1 := F.c1; have F2 := F.c2; have G0 := F.f0 0; have G1 := F.f0 1; have G2 := F.f0 2
        simp only at F0 F1 F2
        by_cases h2 : funcs.length > 32
        · rw [if_pos h2] at hz
          simp only [Prod.mk.injEq] at hz
          obtain ⟨rfl, rfl, rfl⟩ := hz
          have h2' : decide ((32 : Int) < (funcs.length : Int)) = true := decide_eq_true (by omega)
          go_wp2_with fail
          exact bodyPost_ret (v := .agg #[.int .i64 3, .int .i64 32, .int .i64 0]) (by simp [results, Tryd.results42, go_sem, *]) rfl ⟨rfl, (((hb.drewN _).setCell (by simp) _).setCell (by simp) _).setCell (by simp) _⟩
        · rw [if_neg h2] at hz
          simp only [Prod.mk.injEq] at hz
          obtain ⟨rfl, rfl, rfl⟩ := hz
          have h2' : ¬ ((32 : Int) < (funcs.length : Int)) := by omega
          go_wp2_with fail
          exact bodyPost_ret (v := .agg #[.int .i64 0, .int .i64 0, .int .i64 0]) (by simp [results, Tryd.results42, go_sem, *]) rfl ⟨rfl, (((hb.drewN _).setCell (by simp) _).setCell (by simp) _).setCell (by simp) _⟩
end Go.Proofs.YtfmkjdfidenfkaaDoor
namespace Go.Proofs.YtfmkjdfidenfkaaDoor
open Go.RowKit Go.Sort

theorem mayZ_whole {m : Mo} (h : (wholeZ m).1 ≠ 0) : mayZ m = wholeZ m := by unfold mayZ; rw [if_pos h]
theorem mayZ_head {m : Mo} (h : (wholeZ m).1 = 0) (h2 : (headsN m m.funcs 0).1 ≠ 0) : mayZ m = headsN m m.funcs 0 := by unfold mayZ; rw [if_neg (by simp [h]), if_pos h2]
theorem mayZ_code {m : Mo} (h : (wholeZ m).1 = 0) (h2 : (headsN m m.funcs 0).1 = 0) : mayZ m = codesN m m.funcs 0 := by unfold mayZ; rw [if_neg (by simp [h]), if_neg (by simp [h2])]
/-- Where no head is wrong every function has code. -/
theorem heads_ok {m : Mo} : ∀ (l : List Fn) (i : Nat), (headsN m l i).1 = 0 → ∀ (j : Nat) (f : Fn), l[j]? = some f → (headZ m f (i + j)).1 = 0
  | [], _, _, _, _, h => by simp at h
  | g :: r, i, h, j, f, hf => by
    rw [headsN] at h
    split at h
    · rename_i hne; exact absurd h hne
    · rename_i he
      cases j with
      | zero => simp at hf; subst hf; simpa using he
      | succ j => have := heads_ok r (i + 1) h j f (by simpa using hf); rwa [show i + 1 + j = i + (j + 1) by omega] at this
theorem head_rest {m : Mo} {f : Fn} {k : Nat} (h : (headZ m f k).1 = 0) : idB f.name.data.toList = true ∧ ¬ fndN m.funcs f.name 0 < k ∧ f.params.length ≤ 8 ∧ emptN f.params 0 = none ∧ 1 ≤ f.regs ∧ f.regs ≤ 64 ∧ f.params.length ≤ f.regs ∧ 0 ≤ f.words ∧ f.words ≤ 4096 ∧ 1 ≤ f.code.length ∧ f.code.length ≤ 1024 := by
  cases h1 : idB f.name.data.toList with
  | false => rw [headZ_name h1] at h; simp at h
  | true =>
    by_cases h2 : fndN m.funcs f.name 0 < k
    · rw [headZ_twice h1 h2] at h; simp at h
    · by_cases h3 : f.params.length > 8
      · rw [headZ_many h1 h2 h3] at h; simp at h
      · cases h4 : emptN f.params 0 with
        | some i => rw [headZ_empty h1 h2 h3 h4] at h; simp at h
        | none =>
          rw [headZ_rest h1 h2 h3 h4] at h
          unfold restZ at h
          split at h
          · simp at h
          · split at h
            · simp at h
            · split at h
              · simp at h
              · exact ⟨rfl, h2, by omega, rfl, by omega, by omega, by omega, by omega, by omega, by omega, by omega⟩

set_option maxRecDepth 100000 in
set_option maxHeartbeats 4000000 in
theorem may_any (m : Mo) (w : World) (ht : Tab w) (hm : m.In w) :
    Calls Tryd.prog 19 #[m.val] w fun e w' => e = .returned (fltV (mayZ m)) ∧ Below w.heap.size w w' := by
  have hb := Below.one (Below.one (Below.refl _ w) (oM m)) (.cells #[.int .i64 0, .int .i64 0, .int .i64 0] 46)
  have b0 := cell_kept_below (new_cell w #[.slice m.ta m.ths.length m.tc, .slice m.fa m.funcs.length m.fc] 25 0 (.slice m.ta m.ths.length m.tc) rfl) (Below.one (Below.refl _ _) (.cells #[.int .i64 0, .int .i64 0, .int .i64 0] 46))
  have b1 := cell_kept_below (new_cell w #[.slice m.ta m.ths.length m.tc, .slice m.fa m.funcs.length m.fc] 25 1 (.slice m.fa m.funcs.length m.fc) rfl) (Below.one (Below.refl _ _) (.cells #[.int .i64 0, .int .i64 0, .int .i64 0] 46))
  have F := FAt.new (w.alloc (oM m)) (0, 0, 0)
  rw [World.size_alloc] at F
  have hc := hm.2.2.1.1
  have HW : Hid (∀ w', Below w.heap.size w w' → Calls Tryd.prog 42 #[.agg #[.slice m.ta m.ths.length m.tc, .slice m.fa m.funcs.length m.fc]] w' fun e w'' => e = .returned (fltV (wholeZ m)) ∧ Below w'.heap.size w' w'') := fun w' hb => checkWhole_any m w' (hm.1.stay hb) hm.2.2.1.1
  have HH : Hid (∀ (k : Nat) (f : Fn) (w' : World), m.funcs[k]? = some f → Below w.heap.size w w' → Calls Tryd.prog 43 #[.agg #[.slice m.ta m.ths.length m.tc, .slice m.fa m.funcs.length m.fc], .int .i64 k] w' fun e w'' => e = .returned (.tuple #[.int .i64 (headZ m f k).1, .int .i64 (headZ m f k).2]) ∧ Below w'.heap.size w' w'') := fun k f w' h hb => checkHead_any m k w' (hm.stay hb) f h
  have HC : Hid (∀ (k : Nat) (f : Fn) (w' : World), m.funcs[k]? = some f → 0 < f.code.length → Below w.heap.size w w' → Calls Tryd.prog 44 #[.agg #[.slice m.ta m.ths.length m.tc, .slice m.fa m.funcs.length m.fc], .int .i64 k] w' fun e w'' => e = .returned (.tuple #[.int .i64 (codeZ m f).1, .int .i64 (codeZ m f).2]) ∧ Below w'.heap.size w' w'') := fun k f w' h hl hb => checkCode_any m k w' (ht.stay hb) (hm.stay hb) f h hl
  have HDH : Hid (∀ (j : Nat) (f : Fn), m.funcs[j]? = some f → headsN m (m.funcs.drop j) j = if (headZ m f j).1 ≠ 0 then ((headZ m f j).1, (j : Int), (headZ m f j).2) else headsN m (m.funcs.drop (j + 1)) (j + 1)) := fun j x h => by
    obtain ⟨h1, h2⟩ := List.getElem?_eq_some_iff.1 h
    rw [headsN_drop h1, h2]
  have HDC : Hid (∀ (j : Nat) (f : Fn), m.funcs[j]? = some f → codesN m (m.funcs.drop j) j = if (codeZ m f).1 ≠ 0 then ((codeZ m f).1, (j : Int), (codeZ m f).2) else codesN m (m.funcs.drop (j + 1)) (j + 1)) := fun j x h => by
    obtain ⟨h1, h2⟩ := List.getElem?_eq_some_iff.1 h
    rw [codesN_drop h1, h2]
  have HEH : Hid (∀ j, ¬ j < m.funcs.length → headsN m (m.funcs.drop j) j = (0, 0, 0)) := fun j h => by rw [List.drop_eq_nil_of_le (by omega)]; rfl
  have HEC : Hid (∀ j, ¬ j < m.funcs.length → codesN m (m.funcs.drop j) j = (0, 0, 0)) := fun j h => by rw [List.drop_eq_nil_of_le (by omega)]; rfl
  have HK : Hid ((headsN m m.funcs 0).1 = 0 → ∀ (j : Nat) (f : Fn), m.funcs[j]? = some f → 0 < f.code.length) := fun h j f hf => (head_rest (heads_ok m.funcs 0 h j f hf)).2.2.2.2.2.2.2.2.2.1
  have M1 := Hid.mk' (mayZ_whole (m := m))
  have M2 := Hid.mk' (mayZ_head (m := m))
  have M3 := Hid.mk' (mayZ_code (m := m))
  clear ht hm
  generalize mayZ m = Z at *
  generalize wholeZ m = WZ at *
  generalize headZ m = HZ at *
  generalize codeZ m = CZ at *
  generalize headsN m = HN at *
  generalize codesN m = CN at *
  obtain ⟨z0, z1, z2⟩ := Z
  obtain ⟨y0, y1, y2⟩ := WZ
  obtain ⟨ta, tc, ths, fa, fc, funcs⟩ := m
  unfold Mo.val fltV
  unfold fltV at HW
  unfold oM at *
  simp only at *
  generalize hW : (w.alloc (.cells #[.slice ta ths.length tc, .slice fa funcs.length fc] 25)).alloc (.cells #[.int .i64 0, .int .i64 0, .int .i64 0] 46) = W at *
  have HWW := Hid.mk' hW
  clear hW
  by_cases h0 : y0 = 0
  · subst h0
    replace M2 : Hid ((HN funcs 0).1 ≠ 0 → (z0, z1, z2) = HN funcs 0) := fun h => M2.out rfl h
    replace M3 : Hid ((HN funcs 0).1 = 0 → (z0, z1, z2) = CN funcs 0) := fun h => M3.out rfl h
    clear M1
    go_enter Tryd.func19, Tryd.ntmps19
    go_wp2_with (go_at_call 42; rw [HWW.out]; refine (HW.out _ hb).mono ?_; rintro e w1 ⟨rfl, hb1⟩; replace b0 := cell_kept_below b0 (Below.one hb1 (.cells #[.int .i64 0, .int .i64 y1, .int .i64 y2] 46)); replace b1 := cell_kept_below b1 (Below.one hb1 (.cells #[.int .i64 0, .int .i64 y1, .int .i64 y2] 46)))
    replace F := F.stay (Below.one hb1 (.cells #[.int .i64 0, .int .i64 y1, .int .i64 y2] 46))
    replace hb := Below.one (Below.on hb hb1) (.cells #[.int .i64 0, .int .i64 y1, .int .i64 y2] 46)
    clear HWW hb1
    generalize w1.alloc (.cells #[.int .i64 0, .int .i64 y1, .int .i64 y2] 46) = V at *
    go_loopw [19] (fun t19 wr => ∃ (j : Nat), j ≤ funcs.length ∧ t19 = .int .i64 j ∧ HN (funcs.drop j) j = HN funcs 0 ∧ Below V.heap.size V wr) (fun t19 _ => funcs.length - (intOf t19).toNat)
    case atStart => exact ⟨0, Nat.zero_le _, rfl, rfl, Below.refl _ _⟩
    case round =>
      obtain ⟨j, hj, rfl, hcnt, hbr⟩ := hrel
      have HCN := Hid.mk' hcnt
      clear hcnt
      have hbw := Below.on hb hbr
      have e0 := cell_kept_below b0 hbr
      have e1 := cell_kept_below b1 hbr
      by_cases hlt : j < funcs.length
      · have hf : funcs[j]? = some funcs[j] := by simp [hlt]
        have HCx := Hid.mk' (HH.out j funcs[j] wr hf hbw)
        have HDj := Hid.mk' (HDH.out j funcs[j] hf)
        generalize funcs[j] = f at *
        generalize HZ f j = Y at *
        obtain ⟨q0, q1⟩ := Y
        simp only at HCx HDj
        clear hf
        by_cases hI : q0 = 0
        · subst hI
          go_wp2_with (go_at_call 43; refine HCx.out.mono ?_; rintro e w4 ⟨rfl, hb4⟩)
          go_roundw
          case rel => exact ⟨j + 1, by omega, by go_num, by rw [← HCN.out, HDj.out]; simp, Below.on hbr hb4⟩
          case measure => simp [intOf]; omega
        · have hI' := bne_of hI
          have hn : HN funcs 0 = (q0, (j : Int), q1) := by rw [← HCN.out, HDj.out, if_pos hI]
          have hz := M2.out (by rw [hn]; exact hI)
          rw [hn] at hz
          simp only [Prod.mk.injEq] at hz
          obtain ⟨rfl, rfl, rfl⟩ := hz
          clear hn hI
          have hb5 := hbw
          go_wp2_with (go_at_call 43; refine HCx.out.mono ?_; rintro e w4 ⟨rfl, hb4⟩; have F4 := F.stay (Below.on hbr hb4); have F0 := F4.c0; have F1 := F4.c1; have F2 := F4.c2; have G0 := F4.f0 0; have G1 := F4.f0 1; have G2 := F4.f0 2)
          exact bodyPost_ret (v := .agg #[.int .i64 z0, .int .i64 j, .int .i64 z2]) (by simp [results, Tryd.results19, go_sem, *]) rfl ⟨rfl, (((Below.on hbw hb4).setCell (by simp) _).setCell (by simp) _).setCell (by simp) _⟩
      · have hn : HN funcs 0 = (0, 0, 0) := by rw [← HCN.out, HEH.out j hlt]
        replace M3 : Hid ((z0, z1, z2) = CN funcs 0) := M3.out (by rw [hn])
        replace HK : Hid (∀ (j : Nat) (f : Fn), funcs[j]? = some f → 0 < f.code.length) := HK.out (by rw [hn])
        have hli : ¬ ((j : Int) < (funcs.length : Int)) := by omega
        have FW := F.stay hbr
        clear hn M2 HH HDH HEH HCN F hlt
        go_wp2_with fail
        obtain ⟨Wo, h⟩ : ∃ Wo, Wo = wr := ⟨_, rfl⟩
        subst h
        go_loopw [38] (fun t38 wr => ∃ (i : Nat), i ≤ funcs.length ∧ t38 = .int .i64 i ∧ CN (funcs.drop i) i = CN funcs 0 ∧ Below Wo.heap.size Wo wr) (fun t38 _ => funcs.length - (intOf t38).toNat)
        case atStart => exact ⟨0, Nat.zero_le _, rfl, rfl, Below.refl _ _⟩
        case round =>
          obtain ⟨i, hi, rfl, hcnt, hbq⟩ := hrel
          have HCN := Hid.mk' hcnt
          clear hcnt
          have hbv := Below.on hbw hbq
          have d0 := cell_kept_below e0 hbq
          have d1 := cell_kept_below e1 hbq
          by_cases hlt : i < funcs.length
          · have hf : funcs[i]? = some funcs[i] := by simp [hlt]
            have HCx := Hid.mk' (HC.out i funcs[i] wr hf (HK.out i _ hf) hbv)
            have HDj := Hid.mk' (HDC.out i funcs[i] hf)
            generalize funcs[i] = f at *
            generalize CZ f = Y at *
            obtain ⟨q0, q1⟩ := Y
            simp only at HCx HDj
            clear hf
            by_cases hI : q0 = 0
            · subst hI
              go_wp2_with (go_at_call 44; refine HCx.out.mono ?_; rintro e w4 ⟨rfl, hb4⟩)
              go_roundw
              case rel => exact ⟨i + 1, by omega, by go_num, by rw [← HCN.out, HDj.out]; simp, Below.on hbq hb4⟩
              case measure => simp [intOf]; omega
            · have hI' := bne_of hI
              have hz := M3.out
              rw [← HCN.out, HDj.out, if_pos hI] at hz
              simp only [Prod.mk.injEq] at hz
              obtain ⟨rfl, rfl, rfl⟩ := hz
              clear hI
              go_wp2_with (go_at_call 44; refine HCx.out.mono ?_; rintro e w4 ⟨rfl, hb4⟩; have F4 := FW.stay (Below.on hbq hb4); have F0 := F4.c0; have F1 := F4.c1; have F2 := F4.c2; have G0 := F4.f0 0; have G1 := F4.f0 1; have G2 := F4.f0 2)
              exact bodyPost_ret (v := .agg #[.int .i64 z0, .int .i64 i, .int .i64 z2]) (by simp [results, Tryd.results19, go_sem, *]) rfl ⟨rfl, (((Below.on hbv hb4).setCell (by simp) _).setCell (by simp) _).setCell (by simp) _⟩
          · have hz := M3.out
            rw [← HCN.out, HEC.out i hlt] at hz
            simp only [Prod.mk.injEq] at hz
            obtain ⟨rfl, rfl, rfl⟩ := hz
            have hli : ¬ ((i : Int) < (funcs.length : Int)) := by omega
            have F4 := FW.stay hbq
            have F0 := F4.c0; have F1 := F4.c1; have F2 := F4.c2; have G0 := F4.f0 0; have G1 := F4.f0 1; have G2 := F4.f0 2
            go_wp2_with fail
            exact bodyPost_ret (v := .agg #[.int .i64 0, .int .i64 0, .int .i64 0]) (by simp [results, Tryd.results19, go_sem, *]) rfl ⟨rfl, ((hbv.setCell (by simp) _).setCell (by simp) _).setCell (by simp) _⟩
  · have hz := M1.out h0
    simp only [Prod.mk.injEq] at hz
    obtain ⟨rfl, rfl, rfl⟩ := hz
    have hI' := bne_of h0
    clear h0 M1 M2 M3
    go_enter Tryd.func19, Tryd.ntmps19
    go_wp2_with (go_at_call 42; rw [HWW.out]; refine (HW.out _ hb).mono ?_; rintro e w1 ⟨rfl, hb1⟩; have F4 := F.stay (Below.one hb1 (.cells #[.int .i64 z0, .int .i64 z1, .int .i64 z2] 46)); have F0 := F4.c0; have F1 := F4.c1; have F2 := F4.c2; have G0 := F4.f0 0; have G1 := F4.f0 1; have G2 := F4.f0 2)
    exact bodyPost_ret (v := .agg #[.int .i64 z0, .int .i64 z1, .int .i64 z2]) (by simp [results, Tryd.results19, go_sem, *]) rfl ⟨rfl, (((Below.one (Below.on hb hb1) _).setCell (by simp) _).setCell (by simp) _).setCell (by simp) _⟩
end Go.Proofs.YtfmkjdfidenfkaaDoor
