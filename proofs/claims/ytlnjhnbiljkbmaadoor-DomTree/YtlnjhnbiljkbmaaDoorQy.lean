/- The document's own Dominates; the law DomAsks. -/
import Derived.Test.YtlnjhnbiljkbmaaDoorQx
import Derived.Test.YtlnjhnbiljkbmaaDoorNa
namespace Go.Proofs.YtlnjhnbiljkbmaaDoor
open Go.RowKit Go.Shelf

set_option maxRecDepth 100000 in
set_option maxHeartbeats 4000000 in
theorem rdominates_any (f : Fn) (a b : Int) (w : World) (hi : Iss w f.ca f.code) : Calls Tryd.prog 11 #[f.val, .int .i64 a, .int .i64 b] w (DmP f.code a b w) := by
  have HRE : Hid (∀ W, Below w.heap.size w W → Calls Tryd.prog 15 #[f.val] W (ReP f.code W)) := fun W hb => rreach_any f W (hi.stay hb)
  have HWO : Hid (∀ (g : Int) W, Below w.heap.size w W → Calls Tryd.prog 16 #[f.val, .int .i64 g] W (WoP f.code g W)) := fun g W hb => without_any f g W (hi.stay hb)
  clear hi
  obtain ⟨fn, fpa, fpc, fps, frg, fwd, fca, fcc, fl⟩ := f
  unfold Fn.val at *
  simp only at HRE HWO ⊢
  have HB := Hid.mk' (Below.one (Below.refl _ w) (.cells #[.string fn, .slice fpa fps.length fpc, .int .i64 frg, .int .i64 fwd, .slice fca fl.length fcc] 25))
  have HX := Hid.mk' (heap_alloc_new w (.cells #[.string fn, .slice fpa fps.length fpc, .int .i64 frg, .int .i64 fwd, .slice fca fl.length fcc] 25))
  go_enter Tryd.func11, Tryd.ntmps11
  go_wp2_with fail
  refine (HRE.out _ HB.out).mono ?_
  rintro e W1 ⟨v1, rs, rfl, hir, ho, bb1⟩
  obtain ⟨ra, rc, rfl⟩ := gown_form ho
  have HB1 := Hid.mk' (Below.on HB.out bb1)
  have hx1 := blk_stay HX.out bb1
  have z0 := cell_of_obj hx1 (j := 0) (v := .string fn) rfl
  have z1 := cell_of_obj hx1 (j := 1) (v := .slice fpa fps.length fpc) rfl
  have z2 := cell_of_obj hx1 (j := 2) (v := .int .i64 frg) rfl
  have z3 := cell_of_obj hx1 (j := 3) (v := .int .i64 fwd) rfl
  have z4 := cell_of_obj hx1 (j := 4) (v := .slice fca fl.length fcc) rfl
  have HIR := Hid.mk' hir
  have HO := Hid.mk' ho
  have hrl := hir.len
  have HOUT : Hid ((a < 0 ∨ (rs.length : Int) ≤ a ∨ b < 0 ∨ (rs.length : Int) ≤ b) → domb fl a b = false) := fun h => domb_false fun hd => by
    obtain ⟨h1, h2, h3, h4, h5⟩ := hd
    rcases HIR.out with ⟨h, rfl⟩ | ⟨_, _, e, _⟩
    · omega
    · have := h5.left.lt h1
      have := h5.1.lt h1
      omega
  clear hir ho bb1 hx1 HB HX HRE
  by_cases h1 : a < 0
  · have HN := Hid.mk' (HOUT.out (.inl h1))
    go_wp2_with fail
    go_ret
    exact ⟨by rw [HN.out]; rfl, HB1.out⟩
  by_cases h2 : (rs.length : Int) ≤ a
  · have HN := Hid.mk' (HOUT.out (.inr (.inl h2)))
    go_wp2_with fail
    go_ret
    exact ⟨by rw [HN.out]; rfl, HB1.out⟩
  by_cases h3 : b < 0
  · have HN := Hid.mk' (HOUT.out (.inr (.inr (.inl h3))))
    go_wp2_with fail
    go_ret
    exact ⟨by rw [HN.out]; rfl, HB1.out⟩
  by_cases h4 : (rs.length : Int) ≤ b
  · have HN := Hid.mk' (HOUT.out (.inr (.inr (.inr h4))))
    go_wp2_with fail
    go_ret
    exact ⟨by rw [HN.out]; rfl, HB1.out⟩
  obtain ⟨x, rfl⟩ : ∃ x : Nat, a = x := ⟨a.toNat, by omega⟩
  obtain ⟨y, rfl⟩ : ∃ y : Nat, b = y := ⟨b.toNat, by omega⟩
  have hxi : (x : Int) < (rs.length : Int) := by omega
  have hyi : (y : Int) < (rs.length : Int) := by omega
  obtain ⟨hl0, hl1, hl2, hra⟩ : 0 < fl.length ∧ fl.length ≤ 1024 ∧ rs.length = fl.length ∧ ∀ v, rs[v]? = some true ↔ Rch fl v := by
    rcases HIR.out with ⟨_, e⟩ | ⟨h1, h2, h3, h4⟩
    · rw [e] at hyi; simp at hyi; omega
    · exact ⟨h1, h2, h3, h4⟩
  have HRA := Hid.mk' hra
  have HL2 := Hid.mk' hl2
  obtain ⟨cx, hcx⟩ : ∃ c, rs[x]? = some c := ⟨_, List.getElem?_eq_getElem (by omega)⟩
  obtain ⟨cy, hcy⟩ : ∃ c, rs[y]? = some c := ⟨_, List.getElem?_eq_getElem (by omega)⟩
  obtain ⟨g1, rfl, d0, _, _⟩ := ob_at HO.out hcx
  obtain ⟨g2, e2, d1, _, _⟩ := ob_at HO.out hcy
  cases e2
  clear hra hl2 HOUT h1 h2 h3 h4
  cases cx
  · have HN : Hid (domb fl (x : Int) (y : Int) = false) := domb_false fun hd => by
      have := (HRA.out x).2 (by simpa using hd.2.2.2.2.left)
      rw [hcx] at this; cases this
    clear hcx hcy
    go_wp2_with fail
    go_ret
    exact ⟨by rw [HN.out]; rfl, HB1.out⟩
  cases cy
  · have HN : Hid (domb fl (x : Int) (y : Int) = false) := domb_false fun hd => by
      have := (HRA.out y).2 (by simpa using hd.2.2.2.2.1)
      rw [hcy] at this; cases this
    clear hcx hcy
    go_wp2_with fail
    go_ret
    exact ⟨by rw [HN.out]; rfl, HB1.out⟩
  have hry : Rch fl y := (HRA.out y).1 hcy
  have HW : Hid (∀ ws, IsW fl (x : Int) ws → ∃ wy, ws[y]? = some wy ∧ ws.length = rs.length ∧ domb fl (x : Int) (y : Int) = (((x : Int) == (y : Int)) || !wy)) := fun ws hws => by
    rcases hws with ⟨h, _⟩ | ⟨_, _, h3, h4⟩
    · omega
    · have hyw : y < ws.length := by have := HL2.out; omega
      refine ⟨ws[y], List.getElem?_eq_getElem hyw, by have := HL2.out; omega, ?_⟩
      have k1 := (domb_way hl0 hl1 (a := x) hry).1
      have k3 := h4 y
      rw [List.getElem?_eq_getElem hyw] at k3
      have k5 : (x : Int) = (y : Int) → ¬ RchW fl (x : Int) y := fun e hw => hw.ne (by omega)
      rw [Bool.eq_iff_iff, k1]
      generalize ws[y] = wy at *
      simp only [Bool.or_eq_true, beq_iff_eq, Bool.not_eq_true']
      constructor
      · intro h
        refine .inr ?_
        cases wy with
        | false => rfl
        | true => exact absurd (k3.1 rfl) h
      · rintro (h | h)
        · exact k5 h
        · intro hw
          have := k3.2 hw
          rw [h] at this; cases this
  clear hcx hcy hry
  go_wp2_with fail
  refine (HWO.out x W1 HB1.out).mono ?_
  rintro e W2 ⟨v2, ws, rfl, hws, hob, bb2⟩
  obtain ⟨a2, c2, rfl⟩ := gown_form hob
  obtain ⟨wy, hwy, hwl, hfin⟩ := HW.out ws hws
  obtain ⟨g5, rfl, e5, _, _⟩ := ob_at hob hwy
  rw [hwl]
  have HB2 := Hid.mk' (Below.on HB1.out bb2)
  have HF := Hid.mk' hfin
  clear hwy hwl hfin hob hws bb2 z0 z1 z2 z3 z4
  obtain ⟨qe, hqe⟩ : ∃ q, ((x : Int) == (y : Int)) = q := ⟨_, rfl⟩
  rw [hqe] at HF
  cases qe
  · go_wp2_with fail
    go_ret
    exact ⟨by rw [HF.out]; rfl, HB2.out⟩
  · go_wp2_with fail
    go_ret
    exact ⟨by rw [HF.out]; rfl, HB2.out⟩
theorem samF_cpd {W : World} {N : Nat} {g f : Fn} (h : Cpd W N g f) : samF g f = true := by
  obtain ⟨h1, h2, h3, h4, h5, _⟩ := h
  simp [samF, h1, h2, h3, h4, h5, samPs_refl, samXs_refl]
/-- A module of one function, in a block of its own. -/
theorem mo_in {W' : World} (g : Fn) (hg : g.In W') (k : Nat) (hk : W'.heap[k]? = some (.cells #[.string g.name, .slice g.pa g.params.length g.pc, .int .i64 g.regs, .int .i64 g.words, .slice g.ca g.code.length g.cc] 25)) : (Mo.mk none 0 [] (some ⟨k, 0, none⟩) 1 [g]).In W' := by
  refine ⟨⟨by simp, fun i cs h => by simp at h⟩, by simp, ⟨by simp, fun i cs h => ?_⟩, fun f hf => by simp at hf; subst hf; exact hg⟩
  match i, h with
  | 0, h =>
    simp at h
    subst h
    refine ⟨k, 0, rfl, fun j v hj => ?_⟩
    refine cell_of_obj hk ?_
    rw [← Array.getElem?_toList, show 0 + (0 * 5 + j) = j by omega]
    exact (show (g.cells)[j]? = some v from by simpa using hj)
  | i + 1, h => simp at h
theorem own_cap {W : World} {N n sz m c : Nat} {T : TypeId} {a : Option Addr} {xs : List Value} (h : W.ownsRow N T sz (.slice a m c) n xs) : n ≤ c := by
  rcases h.2 with ⟨e, e2⟩ | ⟨g, cap, cur, e, _, _, h3, _⟩
  · cases e; omega
  · cases e; exact h3
set_option maxRecDepth 100000 in
set_option maxHeartbeats 4000000 in
theorem domAsks_any (f : Fn) (a b : Int) (w : World) (hf : f.In w) (hG : 0 < w.heap.size) (hT : Tb w) : Calls Tryd.prog 3 #[f.val, .int .i64 a, .int .i64 b] w fun e w' => e = .returned (.bool true) ∧ Below w.heap.size w w' := by
  have HC : Hid (∀ w', Below w.heap.size w w' → Calls Tryd.prog 7 #[f.val] w' fun e w'' => ∃ g : Fn, e = .returned g.val ∧ Cpd w'' w'.heap.size g f ∧ Below w'.heap.size w' w'') := fun w' hb => copyFunc_any f w' (hf.stay hb)
  have HQ : Hid (∀ w', Below w.heap.size w w' → Calls Tryd.prog 11 #[f.val, .int .i64 a, .int .i64 b] w' (DmP f.code a b w')) := fun w' hb => rdominates_any f a b w' (hf.stay hb).2.2.2.2.2.1
  have HP : Hid (∀ (g : Fn) (w0 w' : World) N, Cpd w0 N g f → Below w0.heap.size w0 w' → Calls Tryd.prog 8 #[g.val, .int .i64 a, .int .i64 b] w' (DmP f.code a b w')) := fun g w0 w' N hg hb => by
    have := dominates_any g a b w' ((hg.in hf).stay hb).2.2.2.2.2.1 (own_cap hg.2.2.2.2.2.2)
    rwa [hg.2.2.2.2.1] at this
  have HFI : Hid (∀ w', Below w.heap.size w w' → f.In w') := fun w' hb => hf.stay hb
  have HGI : Hid (∀ (g : Fn) (w' : World) N, Cpd w' N g f → g.In w') := fun g w' N hg => hg.in hf
  have HF : Hid (∀ W, Below w.heap.size w W → Calls Tryd.prog 10 #[] W fun e w' => e = .returned (.bool true) ∧ Below W.heap.size W w') := fun W hb => fixed_any W (Nat.lt_of_lt_of_le hG hb.size) (hT.keep (hb.block _ hG))
  clear hf hG hT
  have HSM : Hid (∀ (g : Fn) (w0 : World) N (w' : World) k1 k2, Cpd w0 N g f → g.In w' → f.In w' → w'.heap[k1]? = some (.cells #[.string g.name, .slice g.pa g.params.length g.pc, .int .i64 g.regs, .int .i64 g.words, .slice g.ca g.code.length g.cc] 25) → w'.heap[k2]? = some (.cells #[.string f.name, .slice f.pa f.params.length f.pc, .int .i64 f.regs, .int .i64 f.words, .slice f.ca f.code.length f.cc] 25) →
      Calls Tryd.prog 9 #[.agg #[.slice none 0 0, .slice (some ⟨k1, 0, none⟩) 1 1], .agg #[.slice none 0 0, .slice (some ⟨k2, 0, none⟩) 1 1]] w' fun e w'' => e = .returned (.bool true) ∧ Below w'.heap.size w' w'') := fun g w0 N w' k1 k2 hc hg hf h1 h2 => by
    have := rsame_any (Mo.mk none 0 [] (some ⟨k1, 0, none⟩) 1 [g]) (Mo.mk none 0 [] (some ⟨k2, 0, none⟩) 1 [f]) w' (mo_in g hg k1 h1) (mo_in f hf k2 h2)
    rwa [show samM (Mo.mk none 0 [] (some ⟨k1, 0, none⟩) 1 [g]) (Mo.mk none 0 [] (some ⟨k2, 0, none⟩) 1 [f]) = true by simp [samM, samI, samFs, samF_cpd hc]] at this
  unfold Fn.val at *
  have HB := Hid.mk' (Below.one (Below.refl _ w) (.cells #[.string f.name, .slice f.pa f.params.length f.pc, .int .i64 f.regs, .int .i64 f.words, .slice f.ca f.code.length f.cc] 25))
  have HX := Hid.mk' (heap_alloc_new w (.cells #[.string f.name, .slice f.pa f.params.length f.pc, .int .i64 f.regs, .int .i64 f.words, .slice f.ca f.code.length f.cc] 25))
  obtain ⟨D, hD⟩ : ∃ D, domb f.code a b = D := ⟨_, rfl⟩
  have HDD := Hid.mk' hD
  clear hD
  go_enter Tryd.func3, Tryd.ntmps3
  go_wp2_with fail
  refine (HC.out _ HB.out).mono ?_
  rintro e W0 ⟨g, rfl, hg, bb0⟩
  have HG0 := Hid.mk' hg
  have HX0 := Hid.mk' (blk_stay HX.out bb0)
  have HB0 := Hid.mk' (Below.on HB.out bb0)
  have HBX := Hid.mk' (Below.one (Below.refl _ W0) (.cells #[.string g.name, .slice g.pa g.params.length g.pc, .int .i64 g.regs, .int .i64 g.words, .slice g.ca g.code.length g.cc] 25))
  have HXX := Hid.mk' (heap_alloc_new W0 (.cells #[.string g.name, .slice g.pa g.params.length g.pc, .int .i64 g.regs, .int .i64 g.words, .slice g.ca g.code.length g.cc] 25))
  clear hg bb0 HX HB HC
  go_wp2_with fail
  refine (HP.out g W0 _ _ HG0.out HBX.out).mono ?_
  rintro e W1 ⟨rfl, bb1⟩
  rw [HDD.out]
  have hb1 := Below.on HBX.out bb1
  have HB1 := Hid.mk' hb1
  have hx1 := blk_stay HXX.out bb1
  have hy1 := blk_stay HX0.out hb1
  have HX1 := Hid.mk' hx1
  have HY1 := Hid.mk' hy1
  have z0 := cell_of_obj hx1 (j := 0) (v := .string g.name) rfl
  have z1 := cell_of_obj hx1 (j := 1) (v := .slice g.pa g.params.length g.pc) rfl
  have z2 := cell_of_obj hx1 (j := 2) (v := .int .i64 g.regs) rfl
  have z3 := cell_of_obj hx1 (j := 3) (v := .int .i64 g.words) rfl
  have z4 := cell_of_obj hx1 (j := 4) (v := .slice g.ca g.code.length g.cc) rfl
  have y := blk_stay hy1 (Below.one (Below.refl _ W1) (.cells #[.string g.name, .slice g.pa g.params.length g.pc, .int .i64 g.regs, .int .i64 g.words, .slice g.ca g.code.length g.cc] 25))
  have y0 := cell_of_obj y (j := 0) (v := .string f.name) rfl
  have y1 := cell_of_obj y (j := 1) (v := .slice f.pa f.params.length f.pc) rfl
  have y2 := cell_of_obj y (j := 2) (v := .int .i64 f.regs) rfl
  have y3 := cell_of_obj y (j := 3) (v := .int .i64 f.words) rfl
  have y4 := cell_of_obj y (j := 4) (v := .slice f.ca f.code.length f.cc) rfl
  have HBB := Hid.mk' (Below.one (Below.one (Below.refl _ W1) (.cells #[.string g.name, .slice g.pa g.params.length g.pc, .int .i64 g.regs, .int .i64 g.words, .slice g.ca g.code.length g.cc] 25)) (.cells #[.string f.name, .slice f.pa f.params.length f.pc, .int .i64 f.regs, .int .i64 f.words, .slice f.ca f.code.length f.cc] 25))
  have HSM2 := Hid.mk' (HSM.out g W0 _ ((W1.alloc (.cells #[.string g.name, .slice g.pa g.params.length g.pc, .int .i64 g.regs, .int .i64 g.words, .slice g.ca g.code.length g.cc] 25)).alloc (.cells #[.string f.name, .slice f.pa f.params.length f.pc, .int .i64 f.regs, .int .i64 f.words, .slice f.ca f.code.length f.cc] 25)) W1.heap.size (W1.heap.size + 1) HG0.out ((HGI.out g W0 _ HG0.out).stay (Below.on HB1.out HBB.out)) (HFI.out _ (Below.on HB0.out (Below.on HB1.out HBB.out))) (blk_stay (heap_alloc_new W1 _) (Below.one (Below.refl _ _) _)) (by have := heap_alloc_new (W1.alloc (.cells #[.string g.name, .slice g.pa g.params.length g.pc, .int .i64 g.regs, .int .i64 g.words, .slice g.ca g.code.length g.cc] 25)) (.cells #[.string f.name, .slice f.pa f.params.length f.pc, .int .i64 f.regs, .int .i64 f.words, .slice f.ca f.code.length f.cc] 25); rwa [World.size_alloc] at this))
  clear bb1 hb1 hx1 hy1 HBX HXX y
  go_wp2_with fail
  refine HSM2.out.mono ?_
  rintro e W2 ⟨rfl, bb2⟩
  have HB2 := Hid.mk' (Below.on HB1.out (Below.on HBB.out bb2))
  clear bb2 z0 z1 z2 z3 z4 y0 y1 y2 y3 y4 HSM2 HBB
  go_wp2_with fail
  refine (HF.out W2 (Below.on HB0.out HB2.out)).mono ?_
  rintro e W3 ⟨rfl, bb3⟩
  have HB3 := Hid.mk' (Below.on HB2.out bb3)
  have hy3 := blk_stay HX0.out HB3.out
  have y0 := cell_of_obj hy3 (j := 0) (v := .string f.name) rfl
  have y1 := cell_of_obj hy3 (j := 1) (v := .slice f.pa f.params.length f.pc) rfl
  have y2 := cell_of_obj hy3 (j := 2) (v := .int .i64 f.regs) rfl
  have y3 := cell_of_obj hy3 (j := 3) (v := .int .i64 f.words) rfl
  have y4 := cell_of_obj hy3 (j := 4) (v := .slice f.ca f.code.length f.cc) rfl
  clear bb3 hy3
  go_wp2_with fail
  refine (HQ.out W3 (Below.on HB0.out HB3.out)).mono ?_
  rintro e W4 ⟨rfl, bb4⟩
  rw [HDD.out]
  have HB4 := Hid.mk' (Below.on HB3.out bb4)
  clear bb4
  have hdd : (D == D) = true := by cases D <;> rfl
  go_wp2_with fail
  go_ret
  exact ⟨rfl, Below.on HB0.out HB4.out⟩
end Go.Proofs.YtlnjhnbiljkbmaaDoor
