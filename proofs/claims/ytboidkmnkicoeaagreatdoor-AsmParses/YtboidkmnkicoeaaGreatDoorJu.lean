/- The document's own Parse: what it knows of what has been read; looked. -/
import Derived.Test.YtboidkmnkicoeaaGreatDoorJt
import Derived.Test.YtboidkmnkicoeaaGreatDoorJn
import Derived.Test.YtboidkmnkicoeaaGreatDoorKe
namespace Go.Proofs.YtboidkmnkicoeaaGreatDoor
open Go.RowKit Go.Sort

theorem may_many2 {m : Mo} (h : m.ths.length > 16) : (mayZ m).1 = 3 := by
  have : wholeZ m = (3, 0, 16) := by unfold wholeZ; rw [if_pos h]
  unfold mayZ
  rw [this, if_pos (by decide)]
def hdE (z : Int) : Prop := z = 3 ∨ z = 8 ∨ z = 9 ∨ z = 40 ∨ z = 95 ∨ z = 96 ∨ z = 97
theorem headZ_e0 (m : Mo) (f : Fn) (k : Nat) : (headZ m f k).1 = 0 ∨ hdE (headZ m f k).1 := by
  unfold headZ hdE
  repeat' split
  all_goals simp
theorem headZ_e (m : Mo) (f : Fn) (k : Nat) (h : (headZ m f k).1 ≠ 0) : hdE (headZ m f k).1 := (headZ_e0 m f k).resolve_left h
theorem headsN_e (m : Mo) : ∀ (l : List Fn) (i : Nat), (headsN m l i).1 ≠ 0 → hdE (headsN m l i).1
  | [], _, h => absurd rfl h
  | f :: r, i, h => by
    rw [headsN] at h ⊢
    split
    · rename_i hh; exact headZ_e m f i hh
    · rename_i hh; rw [if_neg hh] at h; exact headsN_e m r (i + 1) h
theorem codeN_at {m : Mo} {f : Fn} : ∀ (l : List Is) (i : Nat), (codeN m f l i).1 ≠ 0 → (i : Int) ≤ (codeN m f l i).2 ∧ (codeN m f l i).2 < ((i + l.length : Nat) : Int)
  | [], _, h => absurd rfl h
  | x :: r, i, h => by
    rw [codeN] at h ⊢
    split
    · exact ⟨by simp, by simp; omega⟩
    · rename_i hh
      rw [if_neg hh] at h
      have := codeN_at r (i + 1) h
      simp only [List.length_cons] at *
      omega
theorem codesN_place {m : Mo} : ∀ (l : List Fn) (i : Nat), (∀ f ∈ l, 1 ≤ f.code.length) → (codesN m l i).1 ≠ 0 → ∃ (k : Nat) (f : Fn), (codesN m l i).2.1 = ((i + k : Nat) : Int) ∧ l[k]? = some f ∧ 0 ≤ (codesN m l i).2.2 ∧ (codesN m l i).2.2 < (f.code.length : Int)
  | [], _, _, h => absurd rfl h
  | f :: r, i, hl, h => by
    rw [codesN] at h ⊢
    split
    · rename_i hh
      refine ⟨0, f, by simp, rfl, ?_⟩
      have h1 := hl f (by simp)
      simp only
      unfold codeZ at hh ⊢
      split
      · rename_i h2
        have := codeN_at f.code 0 h2
        simp only [Nat.zero_add] at this
        omega
      · split
        · rename_i h2 h3; rw [if_neg h2, if_pos h3] at hh; exact absurd rfl hh
        · simp only; omega
    · rename_i hh
      rw [if_neg hh] at h
      obtain ⟨k, g, h1, h2, h3⟩ := codesN_place r (i + 1) (fun f hf => hl f (by simp [hf])) h
      exact ⟨k + 1, g, by rw [h1]; congr 1; omega, by simpa using h2, h3⟩
theorem may_place {m : Mo} (h : (mayZ m).1 ≠ 0) (h66 : (mayZ m).1 ≠ 66) (hh : ¬ hdE (mayZ m).1) : ∃ (k : Nat) (f : Fn), (mayZ m).2.1 = (k : Int) ∧ m.funcs[k]? = some f ∧ 0 ≤ (mayZ m).2.2 ∧ (mayZ m).2.2 < (f.code.length : Int) := by
  by_cases h0 : (wholeZ m).1 = 0
  · by_cases h1 : (headsN m m.funcs 0).1 = 0
    · have e : mayZ m = codesN m m.funcs 0 := by unfold mayZ; rw [if_neg (by rw [h0]; decide), if_neg (by rw [h1]; decide)]
      rw [e] at h ⊢
      obtain ⟨k, f, a1, a2, a3⟩ := codesN_place m.funcs 0 (fun f hf => by
        obtain ⟨j, hj⟩ := List.getElem?_of_mem hf
        have hd := head_rest (heads_ok m.funcs 0 h1 j f hj)
        have := hd.2.2.2.2.2.2.2.2.2.1
        omega) h
      exact ⟨k, f, by rw [a1]; simp, a2, a3⟩
    · have e : mayZ m = headsN m m.funcs 0 := by unfold mayZ; rw [if_neg (by rw [h0]; decide), if_pos h1]
      rw [e] at hh
      exact absurd (headsN_e m _ _ h1) hh
  · have e : mayZ m = wholeZ m := by unfold mayZ; rw [if_pos h0]
    rw [e] at h66 hh
    unfold wholeZ at h0 h66 hh
    split at h0
    · rename_i hq; rw [if_pos hq] at hh; exact absurd (.inl rfl) hh
    · rename_i hq
      rw [if_neg hq] at h66 hh
      cases hr : riseN m.ths 0 with
      | some i => rw [hr] at h66; exact absurd rfl h66
      | none =>
        rw [hr] at h0 hh
        simp only at h0 hh
        split at h0
        · rename_i hf; rw [if_pos hf] at hh; exact absurd (.inl rfl) hh
        · exact absurd rfl h0
/-- What is known of what has been read ahead of line n. -/
structure PrK (n : Nat) (d : Dr) (gs : List Fn) (qs : List Pl) : Prop where
  er : gs.map Fn.er = d.fs
  hl : d.hs.length = gs.length
  ql : qs.length = gs.length
  pl : ∀ (i : Nat) (g : Fn) (h : Nat) (q : Pl), gs[i]? = some g → d.hs[i]? = some h → qs[i]? = some q → q.l = (List.range g.code.length).map (h + 1 + ·)
  ls : ∀ (g : Fn) (h : Nat), gs.getLast? = some g → d.hs.getLast? = some h → h + 1 + g.code.length = n
  th : ∀ z ∈ d.ths, I64 z
  gl : gs.length ≤ n
  hb : ∀ h ∈ d.hs, h ≤ n
  n1 : n = 1 → d = dr0 ∧ gs = [] ∧ qs = []
  n3 : 3 ≤ n → gs ≠ []
theorem PrK.start : PrK 1 dr0 [] [] := ⟨rfl, rfl, rfl, fun i g h q hg => by simp at hg, fun g h hg => by simp at hg, fun z hz => by simp [dr0] at hz, by simp, fun h hh => by simp [dr0] at hh, fun _ => ⟨rfl, rfl, rfl⟩, fun h => by omega⟩
theorem PrK.ths {d : Dr} {gs : List Fn} {qs : List Pl} (h : PrK 1 d gs qs) {l : List Int} (hl : ∀ z ∈ l, I64 z) : PrK 2 { d with ths := l } gs qs := by
  obtain ⟨rfl, rfl, rfl⟩ := h.n1 rfl
  exact ⟨rfl, rfl, rfl, fun i g h q hg => by simp at hg, fun g h hg => by simp at hg, hl, by simp, fun h hh => by simp [dr0] at hh, fun h => by omega, fun h => by omega⟩
theorem PrK.head {n : Nat} {d : Dr} {gs : List Fn} {qs : List Pl} (h : PrK n d gs qs) (h0 : 1 ≤ n) {r : Rs} {g : Fn} (hg : g.er = hdF r) (a : Option Addr) (c : Nat) : PrK (n + 1) { d with hs := d.hs ++ [n], fs := d.fs ++ [hdF r] } (gs ++ [g]) (qs ++ [⟨a, c, []⟩]) := by
  have hc : g.code = [] := by have := congrArg Fn.code hg; simpa [Fn.er, hdF] using this
  refine ⟨by rw [List.map_append, h.er]; simp [hg], by simp [h.hl], by simp [h.ql], fun i g' h' q' e1 e2 e3 => ?_, fun g' h' e1 e2 => ?_, h.th, by simp; have := h.gl; omega, fun h' hh => ?_, fun e => by omega, fun _ => by simp⟩
  · by_cases hi : i < gs.length
    · rw [List.getElem?_append_left hi] at e1
      rw [List.getElem?_append_left (by rw [h.hl]; exact hi)] at e2
      rw [List.getElem?_append_left (by rw [h.ql]; exact hi)] at e3
      exact h.pl i g' h' q' e1 e2 e3
    · have : i = gs.length := by have := (List.getElem?_eq_some_iff.1 e1).1; simp at this; omega
      subst this
      rw [List.getElem?_append_right (Nat.le_refl _)] at e1
      rw [← h.ql, List.getElem?_append_right (Nat.le_refl _)] at e3
      simp at e1 e3
      subst e1 e3
      rw [hc]; rfl
  · simp at e1 e2
    subst e1 e2
    rw [hc]; simp
  · rcases List.mem_append.1 hh with hh | hh
    · have := h.hb h' hh; omega
    · rw [List.mem_singleton] at hh; omega
theorem PrK.ins {n : Nat} {d : Dr} {hd : List Fn} {g : Fn} {hq : List Pl} {q : Pl} (h : PrK n d (hd ++ [g]) (hq ++ [q])) {x : Is} (a : Option Addr) (c : Nat) (a' : Option Addr) (c' : Nat) : PrK (n + 1) { d with fs := d.fs.modify (d.fs.length - 1) (moreI x) } (hd ++ [{ g with ca := a, cc := c, code := g.code ++ [x] }]) (hq ++ [⟨a', c', q.l ++ [n]⟩]) := by
  have hlq : hq.length = hd.length := by have := h.ql; simp at this; exact this
  obtain ⟨hh, hl, hhs⟩ : ∃ hh hl, d.hs = hh ++ [hl] := by
    have : d.hs ≠ [] := fun e => by have := h.hl; rw [e] at this; simp at this
    exact ⟨d.hs.dropLast, d.hs.getLast this, (List.dropLast_concat_getLast this).symm⟩
  have hlh : hh.length = hd.length := by have := h.hl; rw [hhs] at this; simp at this; exact this
  have hls := h.ls g hl (by simp) (by rw [hhs]; simp)
  have hpl := h.pl hd.length g hl q (by simp) (by rw [hhs, ← hlh]; simp) (by rw [← hlq]; simp)
  have hfs : d.fs = hd.map Fn.er ++ [g.er] := by rw [← h.er]; simp
  refine ⟨?_, by rw [h.hl]; simp, by simp [hlq], fun i g' h' q' e1 e2 e3 => ?_, fun g' h' e1 e2 => ?_, h.th, by have := h.gl; simp at *; omega, fun h' hh' => by have := h.hb h' hh'; omega, fun e => ?_, fun _ => by simp⟩
  · show _ = d.fs.modify (d.fs.length - 1) (moreI x)
    rw [hfs, mod_last]
    simp [Fn.er, moreI]
  · by_cases hi : i < hd.length
    · rw [List.getElem?_append_left hi] at e1
      rw [List.getElem?_append_left (by omega)] at e3
      exact h.pl i g' h' q' (by rw [List.getElem?_append_left hi]; exact e1) e2 (by rw [List.getElem?_append_left (by omega)]; exact e3)
    · have : i = hd.length := by have := (List.getElem?_eq_some_iff.1 e1).1; simp at this; omega
      subst this
      simp at e1
      rw [← hlq] at e3
      simp at e3
      rw [hhs, ← hlh] at e2
      simp at e2
      subst e1 e2 e3
      simp only [List.length_append, List.length_cons, List.length_nil]
      rw [List.range_succ, List.map_append, ← hpl]
      simp; omega
  · simp at e1
    subst e1
    have e2' : d.hs.getLast? = some h' := e2
    rw [hhs] at e2'
    simp at e2'
    subst e2'
    simp; omega
  · have := h.n1 (by omega : n = 1)
    simp at this
theorem may_same_er {d : Dr} {gs : List Fn} {qs : List Pl} {n : Nat} (h : PrK n d gs qs) (ta : Option Addr) (tc : Nat) (fa : Option Addr) (fc : Nat) : (⟨ta, tc, d.ths, fa, fc, gs⟩ : Mo).er = moD d ∧ mayZ ⟨ta, tc, d.ths, fa, fc, gs⟩ = mayZ (moD d) := by
  have he : (⟨ta, tc, d.ths, fa, fc, gs⟩ : Mo).er = moD d := by unfold Mo.er moD; simp only; rw [h.er]
  refine ⟨he, mayZ_same ?_⟩
  rw [he]
  unfold Mo.er moD
  simp only [Mo.mk.injEq, true_and]
  rw [← h.er]
  simp [Fn.er]
/-- What looked answers. -/
def LkP (W : World) (d : Dr) (m : Mo) (e : Ending) (W' : World) : Prop := Below W.heap.size W W' ∧ ((mayZ (moD d)).1 = 0 → e = .returned (.tuple #[m.val, .int .i64 0, .int .i64 0, .int .i64 0])) ∧ ((mayZ (moD d)).1 ≠ 0 → e = .returned (.tuple #[mo0.val, .int .i64 (mayZ (moD d)).1, .int .i64 (fltN d (mayZ (moD d))), .int .i64 0]))
theorem LkP.ok {W W' : World} {d : Dr} {m : Mo} {z0 z1 z2 : Int} (hz : mayZ (moD d) = (z0, z1, z2)) (h0 : z0 = 0) (hb : Below W.heap.size W W') : LkP W d m (.returned (.tuple #[m.val, .int .i64 0, .int .i64 0, .int .i64 0])) W' := ⟨hb, fun _ => rfl, fun h => absurd (by rw [hz]; exact h0) h⟩
theorem LkP.no {W W' : World} {d : Dr} {m : Mo} {z0 z1 z2 l : Int} (hz : mayZ (moD d) = (z0, z1, z2)) (h0 : z0 ≠ 0) (hl : fltN d (z0, z1, z2) = l) (hb : Below W.heap.size W W') : LkP W d m (.returned (.tuple #[mo0.val, .int .i64 z0, .int .i64 l, .int .i64 0])) W' := ⟨hb, fun h => absurd (by rw [hz] at h; exact h) h0, fun _ => by rw [hz, hl]⟩
set_option maxRecDepth 100000 in
set_option maxHeartbeats 8000000 in
theorem looked_any {w W : World} {n : Nat} {d : Dr} {gs : List Fn} {qs : List Pl} {ta fa a7 a8 : Option Addr} {tc fc c7 c8 B C : Nat} (h : Rf w d.ths gs d.hs qs (.slice ta d.ths.length tc) (.slice fa gs.length fc) (.slice a7 d.hs.length c7) (.slice a8 qs.length c8) B C W) (hp : PrK n d gs qs) (hm : (⟨ta, tc, d.ths, fa, fc, gs⟩ : Mo).In W) :
    Calls Tryz.prog 20 #[.agg #[.slice ta d.ths.length tc, .slice fa gs.length fc], .slice a7 d.hs.length c7, .slice a8 qs.length c8] W (LkP W d ⟨ta, tc, d.ths, fa, fc, gs⟩) := by
  obtain ⟨_, hme⟩ := may_same_er hp ta tc fa fc
  have hb0 := Below.one (Below.one (Below.refl _ W) (.cells #[.slice ta d.ths.length tc, .slice fa gs.length fc] 25)) (.cells #[.slice none 0 0, .slice none 0 0] 25)
  have x3 : ((W.alloc (.cells #[.slice ta d.ths.length tc, .slice fa gs.length fc] 25)).alloc (.cells #[.slice none 0 0, .slice none 0 0] 25)).heap[W.heap.size]? = some (.cells #[.slice ta d.ths.length tc, .slice fa gs.length fc] 25) := (Below.heap_alloc _ _ _ (by simp)).trans (heap_alloc_new _ _)
  have x6 : ((W.alloc (.cells #[.slice ta d.ths.length tc, .slice fa gs.length fc] 25)).alloc (.cells #[.slice none 0 0, .slice none 0 0] 25)).heap[W.heap.size + 1]? = some (.cells #[.slice none 0 0, .slice none 0 0] 25) := by
    have := heap_alloc_new (W.alloc (.cells #[.slice ta d.ths.length tc, .slice fa gs.length fc] 25)) (.cells #[.slice none 0 0, .slice none 0 0] 25)
    rwa [World.size_alloc] at this
  have HM := Hid.mk' (rmay_any ⟨ta, tc, d.ths, fa, fc, gs⟩ _ (hm.stay hb0))
  rw [hme] at HM
  have HX := Hid.mk' (And.intro x3 x6)
  have HB := Hid.mk' hb0
  have HRF := Hid.mk' h
  have HP := Hid.mk' hp
  have hthl : d.ths.length ≤ 140737488351232 := by have h1 : d.ths.length * 8 ≤ 140737488351232 := hm.1.1; omega
  have HAT : Hid ((mayZ (moD d)).1 ≠ 0 → (mayZ (moD d)).1 ≠ 66 → ¬ d.ths.length > 16 → ∃ k : Nat, (mayZ (moD d)).2.1 = (k : Int) ∧ k < gs.length) := fun h1 h2 h3 => by
    have hq := may_at h1 h2 h3
    have hfl : (moD d).funcs.length = gs.length := by show d.fs.length = _; rw [← hp.er]; simp
    rw [hfl] at hq
    exact ⟨(mayZ (moD d)).2.1.toNat, by omega, by omega⟩
  have HPL : Hid ((mayZ (moD d)).1 ≠ 0 → (mayZ (moD d)).1 ≠ 66 → ¬ hdE (mayZ (moD d)).1 → ∃ (k j : Nat) (g : Fn), (mayZ (moD d)).2.1 = (k : Int) ∧ (mayZ (moD d)).2.2 = (j : Int) ∧ gs[k]? = some g ∧ j < g.code.length) := fun h1 h2 h3 => by
    obtain ⟨k, f, a1, a2, a3, a4⟩ := may_place h1 h2 h3
    have a2' : d.fs[k]? = some f := a2
    rw [← hp.er, List.getElem?_map] at a2'
    obtain ⟨g, g1, g2⟩ := Option.map_eq_some_iff.1 a2'
    refine ⟨k, (mayZ (moD d)).2.2.toNat, g, a1, by omega, g1, ?_⟩
    have : f.code = g.code := by rw [← g2]; rfl
    rw [← this]; omega
  have HTM : Hid (d.ths.length > 16 → (mayZ (moD d)).1 = 3) := fun hq => may_many2 (m := moD d) hq
  have HFL : Hid (∀ z, fltN d z = if z.1 = 66 ∨ d.ths.length > 16 then 1 else if z.1 = 3 ∨ z.1 = 8 ∨ z.1 = 9 ∨ z.1 = 40 ∨ z.1 = 95 ∨ z.1 = 96 ∨ z.1 = 97 then ((d.hs.getD z.2.1.toNat 0 : Nat) : Int) else ((d.hs.getD z.2.1.toNat 0 : Nat) : Int) + 1 + z.2.2) := fun z => rfl
  clear hm h hp hme hb0 x3 x6
  obtain ⟨LK, hLK⟩ : ∃ LK, LK = LkP W d ⟨ta, tc, d.ths, fa, fc, gs⟩ := ⟨_, rfl⟩
  rw [← hLK]
  generalize hz : mayZ (moD d) = z at *
  obtain ⟨z0, z1, z2⟩ := z
  have HOK : Hid (z0 = 0 → ∀ W', Below W.heap.size W W' → LK (.returned (.tuple #[.agg #[.slice ta d.ths.length tc, .slice fa gs.length fc], .int .i64 0, .int .i64 0, .int .i64 0])) W') := fun h0 W' hb => by rw [hLK]; exact LkP.ok hz h0 hb
  have HNO : Hid (∀ l, z0 ≠ 0 → fltN d (z0, z1, z2) = l → ∀ W', Below W.heap.size W W' → LK (.returned (.tuple #[.agg #[.slice none 0 0, .slice none 0 0], .int .i64 z0, .int .i64 l, .int .i64 0])) W') := fun l h0 hl W' hb => by rw [hLK]; exact LkP.no hz h0 hl hb
  clear hz hLK
  simp only at *
  unfold Mo.val at *
  unfold fltV at HM
  go_enter Tryz.func20, Tryz.ntmps20
  go_wp2_with fail
  generalize (W.alloc (.cells #[.slice ta d.ths.length tc, .slice fa gs.length fc] 25)).alloc (.cells #[.slice none 0 0, .slice none 0 0] 25) = V1 at *
  refine HM.out.mono ?_
  rintro e V2 ⟨rfl, hb1⟩
  have hb2 := Below.one hb1 (.cells #[.int .i64 z0, .int .i64 z1, .int .i64 z2] 68)
  have hf := heap_alloc_new V2 (.cells #[.int .i64 z0, .int .i64 z1, .int .i64 z2] 68)
  have hx3 := (hb2.block _ (Array.getElem?_eq_some_iff.1 HX.out.1).1).trans HX.out.1
  have hx6 := (hb2.block _ (Array.getElem?_eq_some_iff.1 HX.out.2).1).trans HX.out.2
  replace HB := Hid.mk' (Below.on HB.out hb2)
  have HR3 := Hid.mk' (HRF.out.stay HB.out)
  clear hb1 hb2 HX HM
  have hG : W.heap.size ≤ W.heap.size + 1 := by omega
  go_upto_region 2 with fail
  generalize V2.alloc (.cells #[.int .i64 z0, .int .i64 z1, .int .i64 z2] 68) = V3 at *
  generalize V2.heap.size = F at *
  have f0 := cell_of_obj hf (j := 0) (v := .int .i64 z0) rfl
  have f1 := cell_of_obj hf (j := 1) (v := .int .i64 z1) rfl
  have f2 := cell_of_obj hf (j := 2) (v := .int .i64 z2) rfl
  have m0 := cell_of_obj hx3 (j := 0) (v := .slice ta d.ths.length tc) rfl
  have m1 := cell_of_obj hx3 (j := 1) (v := .slice fa gs.length fc) rfl
  have r0 := cell_of_obj hx6 (j := 0) (v := .slice none 0 0) rfl
  have r1 := cell_of_obj hx6 (j := 1) (v := .slice none 0 0) rfl
  have fz := fun j => Lib.frozen_of_heap hx6 j
  have f0' : V3.drew.cell? ⟨F, 0, none⟩ = some (.int .i64 z0) := f0
  have f1' : V3.drew.cell? ⟨F, 1, none⟩ = some (.int .i64 z1) := f1
  have f2' : V3.drew.cell? ⟨F, 2, none⟩ = some (.int .i64 z2) := f2
  have r0' : V3.drew.cell? ⟨W.heap.size + 1, 0, none⟩ = some (.slice none 0 0) := r0
  have r1' : V3.drew.cell? ⟨W.heap.size + 1, 1, none⟩ = some (.slice none 0 0) := r1
  have fz' : ∀ j, V3.drew.frozen? ⟨W.heap.size + 1, j, none⟩ = false := fz
  have hFne : ¬ F = W.heap.size + 1 := fun e => by rw [e] at hf; rw [hf] at hx6; injection hx6 with hx6; injection hx6 with _ e2 _; cases e2
  have hFne' : ¬ W.heap.size + 1 = F := fun e => hFne e.symm
  have HFIN : Hid (∀ (a b : Value), Below W.heap.size W ((V3.setCell ⟨W.heap.size + 1, 0, none⟩ a).setCell ⟨W.heap.size + 1, 1, none⟩ b) ∧ Below W.heap.size W ((V3.drew.setCell ⟨W.heap.size + 1, 0, none⟩ a).setCell ⟨W.heap.size + 1, 1, none⟩ b)) := fun a b => ⟨(HB.out.setCell hG _).setCell hG _, ((Below.drew HB.out).setCell hG _).setCell hG _⟩
  have HX6 := Hid.mk' hx6
  clear hf hx3 hx6
  by_cases c0 : z0 = 0
  · have HOK0 := Hid.mk' (HOK.out c0)
    subst c0
    clear HFL HAT HPL HTM HNO HOK
    go_wp2_with fail
    exact bodyPost_ret (v := .tuple #[.agg #[.slice ta d.ths.length tc, .slice fa gs.length fc], .int .i64 0, .int .i64 0, .int .i64 0]) (by simp [results, Tryz.results20, go_sem, *]) rfl (HOK0.out _ (HFIN.out _ _).1)
  · have q0 : (z0 == 0) = false := beq_no c0
    have HC0 := Hid.mk' c0
    by_cases c66 : z0 = 66
    · have HE := Hid.mk' (HNO.out 1 c0 (by rw [HFL.out, if_pos (.inl c66)]))
      subst c66
      clear HFL HAT HPL HTM HNO HOK c0
      go_wp2_with fail
      go_region
      all_goals go_wp2_with fail
      all_goals exact bodyPost_ret (v := .tuple #[.agg #[.slice none 0 0, .slice none 0 0], .int .i64 66, .int .i64 1, .int .i64 0]) (by simp [results, Tryz.results20, go_sem, *]) rfl (HE.out _ (HFIN.out _ _).2)
    · have q66 : (z0 == 66) = false := beq_no c66
      by_cases ct : d.ths.length > 16
      · have c3 := HTM.out ct
        have HE := Hid.mk' (HNO.out 1 c0 (by rw [HFL.out, if_pos (.inr ct)]))
        subst c3
        have ct' : decide ((16 : Int) < (d.ths.length : Int)) = true := decide_eq_true (by omega)
        have ct2 : decide (16 < d.ths.length) = true := decide_eq_true (by omega)
        clear HFL HAT HPL HTM HNO HOK c0 c66
        go_wp2_with fail
        go_region
        all_goals go_wp2_with fail
        all_goals exact bodyPost_ret (v := .tuple #[.agg #[.slice none 0 0, .slice none 0 0], .int .i64 3, .int .i64 1, .int .i64 0]) (by simp [results, Tryz.results20, go_sem, *]) rfl (HE.out _ (HFIN.out _ _).2)
      · have ct' : decide ((16 : Int) < (d.ths.length : Int)) = false := decide_eq_false (by omega)
        have ct2 : decide (16 < d.ths.length) = false := decide_eq_false (by omega)
        obtain ⟨k, hk1, hk2⟩ := HAT.out c0 c66 ct
        have hkh : k < d.hs.length := by rw [HP.out.hl]; exact hk2
        have hki : (k : Int) < (d.hs.length : Int) := by omega
        have hgd : d.hs.getD k 0 = d.hs[k] := by rw [List.getD_eq_getElem?_getD, List.getElem?_eq_getElem hkh]; rfl
        by_cases ch : hdE z0
        · have HE := Hid.mk' (HNO.out (d.hs[k] : Nat) c0 (by
            rw [HFL.out, if_neg (fun h => by rcases h with h | h; exact c66 h; exact ct h), if_pos (show _ ∨ _ from ch)]
            simp only
            rw [hk1, Int.toNat_natCast, hgd]))
          obtain ⟨g7, e7, hc7, _, cur7, hb7⟩ := own_cellN HR3.out.oh (j := k) (u := .int .i64 (d.hs[k] : Nat)) (by simp [List.getElem?_map, List.getElem?_eq_getElem hkh, hC])
          have hn7 : ¬ g7 = W.heap.size + 1 := fun e => by rw [e, HX6.out] at hb7; injection hb7 with hb7; injection hb7 with _ e2 _; cases e2
          have hn7' : ¬ W.heap.size + 1 = g7 := fun e => hn7 e.symm
          clear hb7
          subst e7 hk1
          have hc7' : V3.drew.cell? ⟨g7, k, none⟩ = some (.int .i64 (d.hs[k] : Nat)) := hc7
          generalize d.hs[k] = H at *
          clear HFL HAT HPL HTM HNO HOK hgd c0 c66 ct HR3 HRF HP hk2
          unfold hdE at ch
          rcases ch with rfl | rfl | rfl | rfl | rfl | rfl | rfl
          all_goals
            go_wp2_with fail
            go_region
          all_goals go_wp2_with fail
          all_goals exact bodyPost_ret (v := .tuple #[.agg #[.slice none 0 0, .slice none 0 0], .int .i64 _, .int .i64 (H : Nat), .int .i64 0]) (by simp [results, Tryz.results20, go_sem, *] <;> rfl) rfl (HE.out _ (HFIN.out _ _).2)
        · obtain ⟨k', jj, g, e1, e2, hg, hj⟩ := HPL.out c0 c66 ch
          have hkk : k' = k := by omega
          subst hkk
          obtain ⟨q, hq⟩ : ∃ q, qs[k']? = some q := ⟨_, List.getElem?_eq_getElem (l := qs) (i := k') (by rw [HP.out.ql]; exact hk2)⟩
          have hpl := HP.out.pl k' g d.hs[k'] _ hg (List.getElem?_eq_getElem hkh) hq
          have hql : q.l.length = g.code.length := by rw [hpl]; simp
          have hqj : q.l[jj]? = some (d.hs[k'] + 1 + jj) := by rw [hpl, List.getElem?_map, List.getElem?_range hj]; rfl
          have HE := Hid.mk' (HNO.out ((d.hs[k'] : Nat) + 1 + jj : Int) c0 (by
            rw [HFL.out, if_neg (fun h => by rcases h with h | h; exact c66 h; exact ct h), if_neg (show ¬ (_ ∨ _) from ch)]
            simp only
            rw [hk1, Int.toNat_natCast, hgd, e2]))
          have hoq := HR3.out.oq q (List.mem_of_getElem? hq)
          obtain ⟨g8, e8, hc8, _, cur8, hb8⟩ := own_cellN HR3.out.op (j := k') (u := plV q) (by rw [List.getElem?_map, hq]; rfl)
          obtain ⟨gp, ep, hcp, _, curp, hbp⟩ := own_cellN hoq (j := jj) (u := .int .i64 ((d.hs[k'] + 1 + jj : Nat) : Int)) (by rw [List.getElem?_map, hqj]; rfl)
          have hn8 : ¬ g8 = W.heap.size + 1 := fun e => by rw [e, HX6.out] at hb8; injection hb8 with hb8; injection hb8 with _ e2 _; cases e2
          have hn8' : ¬ W.heap.size + 1 = g8 := fun e => hn8 e.symm
          have hnp : ¬ gp = W.heap.size + 1 := fun e => by rw [e, HX6.out] at hbp; injection hbp with hbp; injection hbp with _ e2 _; cases e2
          have hnp' : ¬ W.heap.size + 1 = gp := fun e => hnp e.symm
          have hkq : (k' : Int) < (qs.length : Int) := by rw [HP.out.ql]; omega
          have hjq : (jj : Int) < (q.l.length : Int) := by rw [hql]; omega
          have n3 : ¬ z0 = 3 := fun e => ch (.inl e)
          have q3 : (z0 == 3) = false := beq_no n3
          have q8 : (z0 == 8) = false := beq_no (fun e => ch (.inr (.inl e)))
          have q9 : (z0 == 9) = false := beq_no (fun e => ch (.inr (.inr (.inl e))))
          have q40 : (z0 == 40) = false := beq_no (fun e => ch (.inr (.inr (.inr (.inl e)))))
          have q95 : (z0 == 95) = false := beq_no (fun e => ch (.inr (.inr (.inr (.inr (.inl e))))))
          have q96 : (z0 == 96) = false := beq_no (fun e => ch (.inr (.inr (.inr (.inr (.inr (.inl e)))))))
          have q97 : (z0 == 97) = false := beq_no (fun e => ch (.inr (.inr (.inr (.inr (.inr (.inr e)))))))
          obtain ⟨qa, qc, ql⟩ := q
          simp only at hjq hql
          have ep' : qa = some ⟨gp, 0, none⟩ := ep
          subst e8 e1 e2 ep'
          replace hc8 : V3.cell? ⟨g8, k', none⟩ = some (.slice (some ⟨gp, 0, none⟩) ql.length qc) := hc8
          have hc8' : V3.drew.cell? ⟨g8, k', none⟩ = some (.slice (some ⟨gp, 0, none⟩) ql.length qc) := hc8
          have hcp' : V3.drew.cell? ⟨gp, jj, none⟩ = some (.int .i64 ((d.hs[k'] + 1 + jj : Nat) : Int)) := hcp
          have HE2 : Hid (∀ W', Below W.heap.size W W' → LK (.returned (.tuple #[.agg #[.slice none 0 0, .slice none 0 0], .int .i64 z0, .int .i64 ((d.hs[k'] + 1 + jj : Nat) : Int), .int .i64 0])) W') := fun W' hb => by
            have := HE.out W' hb
            rwa [show ((d.hs[k'] + 1 + jj : Nat) : Int) = (d.hs[k'] : Nat) + 1 + jj by omega]
          generalize d.hs[k'] + 1 + jj = H at *
          clear HFL HAT HPL HTM HNO HOK hgd c0 c66 ct HR3 HRF HP hk2 HE hoq hb8 hbp hql hqj hpl hq hg hj ch
          go_wp2_with fail
          go_region
          all_goals go_wp2_with fail
          all_goals exact bodyPost_ret (v := .tuple #[.agg #[.slice none 0 0, .slice none 0 0], .int .i64 z0, .int .i64 (H : Nat), .int .i64 0]) (by simp [results, Tryz.results20, go_sem, *]) rfl (HE2.out _ (HFIN.out _ _).2)
end Go.Proofs.YtboidkmnkicoeaaGreatDoor

/- The document's own Parse: a line is cut off, its first word; the walk, begun. -/
namespace Go.Proofs.YtboidkmnkicoeaaGreatDoor
open Go.RowKit Go.Sort

/-- A text from one place on: its first line, and what is behind it. -/
theorem line_cut (s : Bt) (fr : Nat) (hf : fr ≤ s.length) : ∃ (L r : Bt) (en : Bool), (10 : UInt8) ∉ L ∧ fr + L.length ≤ s.length ∧ en = decide (fr + L.length < s.length) ∧ (s.drop fr).take L.length = L ∧ (∀ h : fr + L.length < s.length, s[fr + L.length].toNat = 10) ∧ (∀ k (h : k < s.length), fr ≤ k → k < fr + L.length → s[k].toNat ≠ 10) ∧ (en = true → r = s.drop (fr + L.length + 1)) ∧
    ∀ n d, (n = 1 ∨ fr < s.length) → goZ (spl 10 (s.drop fr)) n d = match lineZ n L en with | .error e => .error (e.1, n, e.2) | .ok q => goZ (spl 10 r) (n + 1) (addZ d n q) := by
  have hat : ∀ (L : Bt), (10 : UInt8) ∉ L → (∃ t, s.drop fr = L ++ t) → ∀ k (h : k < s.length), fr ≤ k → k < fr + L.length → s[k].toNat ≠ 10 := fun L hL ⟨t, ht⟩ k h h1 h2 e => by
    refine hL ?_
    have e1 : s[k]? = L[k - fr]? := by
      have h3 : (s.drop fr)[k - fr]? = s[k]? := by rw [List.getElem?_drop]; congr 1; omega
      rw [← h3, ht, List.getElem?_append_left (by omega)]
    have hv : k - fr < L.length := by omega
    rw [List.getElem?_eq_getElem h, List.getElem?_eq_getElem hv] at e1
    injection e1 with e1
    have : s[k] = 10 := UInt8.toNat_inj.1 e
    rw [← this, e1]
    exact List.getElem_mem hv
  rcases spl_cases 10 (s.drop fr) with h | ⟨a, r, h, e⟩
  · have hl : fr + (s.drop fr).length = s.length := by rw [List.length_drop]; omega
    refine ⟨s.drop fr, [], false, h, by omega, (decide_eq_false (by omega)).symm, by rw [List.take_length], fun hh => by omega, hat _ h ⟨[], by simp⟩, fun e => (by cases e), fun n d hn => ?_⟩
    rw [go_last h n d (hn.imp_right fun hh e => by have := congrArg List.length e; rw [List.length_drop] at this; simp at this; omega)]
    cases hq : lineZ n (s.drop fr) false with
    | error e => rfl
    | ok r => exact (lineZ_false hq).elim
  · have hl : fr + a.length + 1 + r.length = s.length := by
      have := congrArg List.length e
      rw [List.length_drop] at this
      simp at this; omega
    refine ⟨a, r, true, h, by omega, (decide_eq_true (by omega)).symm, by rw [e]; simp, fun hh => ?_, hat _ h ⟨10 :: r, e⟩, fun _ => ?_, fun n d _ => by rw [e]; exact go_line h n d⟩
    · have e1 : s[fr + a.length]? = some 10 := by
        have h3 : (s.drop fr)[a.length]? = s[fr + a.length]? := by rw [List.getElem?_drop]
        rw [← h3, e, List.getElem?_append_right (Nat.le_refl _)]; simp
      rw [List.getElem?_eq_getElem hh] at e1
      injection e1 with e1
      rw [e1]; rfl
    · rw [show fr + a.length + 1 = fr + (a.length + 1) by omega, ← List.drop_drop, e]
      simp
/-- What holds at a line's beginning. -/
def LnS (w : World) (s : Bt) (v7 v8 : Value) (fr n : Nat) (W : World) : Prop := ∃ (d : Dr) (gs : List Fn) (qs : List Pl) (vt vf : Value) (B C : Nat), 1 ≤ n ∧ n ≤ fr + 1 ∧ fr ≤ s.length ∧ d.ths.length ≤ 10000000 ∧ Rf w d.ths gs d.hs qs vt vf v7 v8 B C W ∧ PrK n d gs qs ∧ goZ (spl 10 (s.drop fr)) n d = goZ (spl 10 s) 1 dr0
theorem parZ_err {s : Bt} {e : Int} {n p : Nat} (h : goZ (spl 10 s) 1 dr0 = .error (e, n, p)) : parZ s = ⟨dr0, e, n, p⟩ := by unfold parZ; rw [h]
theorem parZ_done {s : Bt} {d : Dr} (h : goZ (spl 10 s) 1 dr0 = .ok d) : parZ s = if (mayZ (moD d)).1 = 0 then ⟨d, 0, 0, 0⟩ else ⟨dr0, (mayZ (moD d)).1, fltN d (mayZ (moD d)), 0⟩ := by unfold parZ; rw [h]
/-- A statement that is not looked into. -/
structure Box (p : Prop) : Prop where
  out : p
/-- A module whose lists are new. -/
def NewM (N : Nat) (m : Mo) : Prop := (∀ a, m.ta = some a → N ≤ a.block) ∧ (∀ a, m.fa = some a → N ≤ a.block) ∧ ∀ g ∈ m.funcs, (∀ a, g.pa = some a → N ≤ a.block) ∧ ∀ a, g.ca = some a → N ≤ a.block
theorem newM0 (N : Nat) : NewM N mo0 := ⟨fun a e => (by cases e), fun a e => (by cases e), fun g hg => (by simp [mo0] at hg)⟩
theorem own_new {W : World} {N n sz c : Nat} {T : TypeId} {a : Option Addr} {xs : List Value} (h : W.ownsRow N T sz (.slice a n c) n xs) : ∀ ad, a = some ad → N ≤ ad.block := fun ad e => by
  subst e
  rcases h.2 with ⟨e, _⟩ | ⟨g, cap, cur, e, h1, _⟩
  · cases e
  · injection e with e1 _ _
    injection e1 with e1
    subst e1
    exact h1
def PaR (w : World) (s : Bt) (e : Ending) (w' : World) : Prop := Below w.heap.size w w' ∧ ∃ m : Mo, e = .returned (.tuple #[m.val, .int .i64 (parZ s).e, .int .i64 (parZ s).line, .int .i64 (parZ s).at_]) ∧ m.In w' ∧ ((parZ s).e = 0 → m.er = moD (parZ s).d) ∧ ((parZ s).e ≠ 0 → m = mo0) ∧ NewM w.heap.size m
/-- The answer where a line is wrong. -/
theorem pap_err {w W : World} {s : Bt} {e : Int} {n p : Nat} (h : goZ (spl 10 s) 1 dr0 = .error (e, n, p)) (he : e ≠ 0) (hb : Below w.heap.size w W) : PaR w s (.returned (.tuple #[.agg #[.slice none 0 0, .slice none 0 0], .int .i64 e, .int .i64 n, .int .i64 p])) W := by
  have hz := parZ_err h
  exact ⟨hb, mo0, by rw [hz]; rfl, mo0_in W, by rw [hz]; exact fun h => absurd h he, fun _ => rfl, newM0 _⟩
theorem Rf.mo {w W : World} {d : Dr} {gs : List Fn} {qs : List Pl} {ta fa : Option Addr} {tc fc B C n : Nat} {v7 v8 : Value} (h : Rf w d.ths gs d.hs qs (.slice ta d.ths.length tc) (.slice fa gs.length fc) v7 v8 B C W) (hp : PrK n d gs qs) (hn : n ≤ 10000001) (ht : d.ths.length ≤ 10000000) : (⟨ta, tc, d.ths, fa, fc, gs⟩ : Mo).In W :=
  ⟨⟨by show d.ths.length * 8 ≤ _; omega, own_row h.ot (fun _ => rfl) (by omega)⟩, hp.th, ⟨by have := hp.gl; show gs.length * 80 ≤ _; omega, own_row h.of (fun _ => rfl) (by omega)⟩, fun f hf => (h.og f hf).2.in (h.og f hf).1⟩
theorem Rf.mo2 {w W : World} {d : Dr} {gs : List Fn} {qs : List Pl} {ta fa : Option Addr} {tc fc B C n : Nat} {v7 v8 : Value} (h : Rf w d.ths gs d.hs qs (.slice ta d.ths.length tc) (.slice fa gs.length fc) v7 v8 B C W) (hp : PrK n d gs qs) (hn : n ≤ 10000001) (ht : d.ths.length ≤ 10000000) (x y : Value) : (⟨ta, tc, d.ths, fa, fc, gs⟩ : Mo).In ((W.setCell ⟨w.heap.size, 0, none⟩ x).setCell ⟨w.heap.size, 1, none⟩ y) := by
  have hz := heap_setCell_same W w.heap.size 0 _ _ x h.zb
  have hk : ∀ {T : TypeId} {M n sz : Nat} {v : Value} {xs : List Value}, T ≠ 25 → W.ownsRow M T sz v n xs → ((W.setCell ⟨w.heap.size, 0, none⟩ x).setCell ⟨w.heap.size, 1, none⟩ y).ownsRow M T sz v n xs := fun hT hh => own_set (own_set hh h.zb hT _ _) hz hT _ _
  exact ⟨⟨by show d.ths.length * 8 ≤ _; omega, own_row (hk (by decide) h.ot) (fun _ => rfl) (by omega)⟩, hp.th, ⟨by have := hp.gl; show gs.length * 80 ≤ _; omega, own_row (hk (by decide) h.of) (fun _ => rfl) (by omega)⟩, fun f hf => (h.og f hf).2.in ⟨hk (by decide) (h.og f hf).1.1, hk (by decide) (h.og f hf).1.2⟩⟩
/-- What is there behind the switch. -/
def SwS (w : World) (L : Bt) (n : Nat) (en : Bool) (R : Nat) (d : Dr) (v7 v8 : Value) (W : World) : Prop := ∃ (q : Qr) (d' : Dr) (gs : List Fn) (qs : List Pl) (vt vf : Value) (B C : Nat), Rf w d'.ths gs d'.hs qs vt vf v7 v8 B C W ∧ RowQ R L q W ∧ LnR n L en q (fun r => addZ d n r = d' ∧ PrK (n + 1) d' gs qs ∧ d'.ths.length ≤ 10000000)
theorem pap_ok {w W' : World} {s : Bt} {d : Dr} {gs : List Fn} {qs : List Pl} {ta fa : Option Addr} {tc fc n : Nat} (hg : goZ (spl 10 s) 1 dr0 = .ok d) (hp : PrK n d gs qs) (h0 : (mayZ (moD d)).1 = 0) (hm : (⟨ta, tc, d.ths, fa, fc, gs⟩ : Mo).In W') (hn : NewM w.heap.size ⟨ta, tc, d.ths, fa, fc, gs⟩) (hb : Below w.heap.size w W') : PaR w s (.returned (.tuple #[.agg #[.slice ta d.ths.length tc, .slice fa gs.length fc], .int .i64 0, .int .i64 0, .int .i64 0])) W' := by
  have hz := parZ_done hg
  rw [if_pos h0] at hz
  exact ⟨hb, ⟨ta, tc, d.ths, fa, fc, gs⟩, by rw [hz]; rfl, hm, by rw [hz]; exact fun _ => (may_same_er hp ta tc fa fc).1, by rw [hz]; exact fun h => absurd rfl h, hn⟩
theorem pap_flt {w W' : World} {s : Bt} {d : Dr} (hg : goZ (spl 10 s) 1 dr0 = .ok d) (h0 : (mayZ (moD d)).1 ≠ 0) (hb : Below w.heap.size w W') : PaR w s (.returned (.tuple #[.agg #[.slice none 0 0, .slice none 0 0], .int .i64 (mayZ (moD d)).1, .int .i64 (fltN d (mayZ (moD d))), .int .i64 0])) W' := by
  have hz := parZ_done hg
  rw [if_neg h0] at hz
  exact ⟨hb, mo0, by rw [hz]; rfl, mo0_in W', by rw [hz]; exact fun h => absurd h h0, fun _ => rfl, newM0 _⟩
theorem LnR.mono {n : Nat} {L : Bt} {en : Bool} {q : Qr} {ok ok' : Rs → Prop} (h : LnR n L en q ok) (hm : ∀ r, ok r → ok' r) : LnR n L en q ok' := by
  rcases h with h | ⟨h1, h2, r, h3, h4⟩
  · exact .inl h
  · exact .inr ⟨h1, h2, r, h3, hm r h4⟩
theorem Tryz.infoQ : (Tryz.prog.info? 40).map (fun i => (i.zero, i.size, i.bytes)) = some (some (.slice none 0 0), 1, 24) := by kernel_rfl
/-- While thresholds are read. -/
def ThS (w : World) (R : Nat) (L : Bt) (res : Qr × Option (List Int)) (vf v7 v8 : Value) (B C : Nat) (W : World) : Prop := ∃ (k : Nat) (q : Qr) (l : List Int) (o : Option (List Int)) (vt : Value), Rf w l [] [] [] vt vf v7 v8 B C W ∧ RowQ R L q W ∧ (∀ z ∈ l, I64 z) ∧ (∀ y, o = some y → l = y) ∧ q.ws.length ≤ k ∧ l.length + q.ws.length ≤ 10000000 ∧ thrQ L.length k q o = res
def atOf (R : Nat) (W : World) : Nat := match W.cell? ⟨R, 1, none⟩ with | some (.int _ a) => a.toNat | _ => 0
theorem atOf_row {R : Nat} {L : Bt} {a : Nat} {e : Int} {p : Nat} {W : World} (h : RowA R L a e p W) : atOf R W = a := by unfold atOf; rw [h.cells.2.1]; simp
theorem fl_len (ws : List Bt) : ws.length ≤ (fl ws).length := by
  induction ws with
  | nil => simp
  | cons v t ih => rw [fl_cons]; simp; omega
/-- While pairs are read. -/
def PrS (W4 : World) (R F : Nat) (L : Bt) (res : Qr × Option (List Sp)) (nm : ByteArray) (x y : Int) (W : World) : Prop := ∃ (k : Nat) (q : Qr) (l : List Sp) (o : Option (List Sp)) (vp : Value), OnlyB R W4 W ∧ W.heap[F]? = some (.cells #[.string nm, vp, .int .i64 x, .int .i64 y, .slice none 0 0] 34) ∧ W.ownsRow F 38 2 vp l.length (l.flatMap spC) ∧ RowQ R L q W ∧ (∀ z ∈ l, spOk z) ∧ (∀ z, o = some z → l = z) ∧ q.ws.length ≤ k ∧ l.length + q.ws.length ≤ 10000000 ∧ prQ L.length k q o = res
def PrX (W4 : World) (R F : Nat) (L : Bt) (res : Qr × Option (List Sp)) (nm : ByteArray) (x y : Int) (W : World) : Prop := ∃ (q : Qr) (l : List Sp) (o : Option (List Sp)) (vp : Value), OnlyB R W4 W ∧ W.heap[F]? = some (.cells #[.string nm, vp, .int .i64 x, .int .i64 y, .slice none 0 0] 34) ∧ W.ownsRow F 38 2 vp l.length (l.flatMap spC) ∧ RowQ R L q W ∧ (∀ z ∈ l, spOk z) ∧ (∀ z, o = some z → l = z) ∧ l.length ≤ 10000000 ∧ res = (q, o)
theorem num_ws_le (n : Nat) (q : Qr) : (q.num n).1.ws.length ≤ q.ws.length := by
  unfold Qr.num
  by_cases he : q.e ≠ 0
  · rw [if_pos he]; exact Nat.le_refl _
  · rw [if_neg he]
    cases q.ws with
    | nil => simp
    | cons v t => simp only; cases numB v <;> simp
theorem num_a_le (n : Nat) (q : Qr) : q.a ≤ (q.num n).1.a := by
  unfold Qr.num
  by_cases he : q.e ≠ 0
  · rw [if_pos he]; exact Nat.le_refl _
  · rw [if_neg he]
    cases q.ws with
    | nil => simp
    | cons v t => simp only; cases numB v <;> simp <;> omega
theorem word_ws_le (n : Nat) (q : Qr) : (q.word n).1.ws.length ≤ q.ws.length := by
  unfold Qr.word
  by_cases he : q.e ≠ 0
  · rw [if_pos he]; exact Nat.le_refl _
  · rw [if_neg he]
    cases q.ws with
    | nil => simp
    | cons v t => simp
theorem word_len_le {n : Nat} {q : Qr} {L : Bt} (h : AtW L q.a q.ws) : ((q.word n).2.getD []).length ≤ L.length := by
  cases hw : (q.word n).2 with
  | none => simp
  | some v =>
    obtain ⟨_, t, hws, _⟩ := Qr.word_some hw
    rw [hws] at h
    have := h.len
    simp; omega
/-- What is read while an instruction is added. -/
def IxS (M : Nat) (vm : Array Value) (gf j : Nat) (cv : Value) (X : Nat) (x : Is) (W : World) : Prop := W.heap[M]? = some (.cells vm 25) ∧ W.cell? ⟨gf, j, none⟩ = some cv ∧ W.heap[X]? = some (.cells (cI x) 36)
theorem IxS.one {M gf j X : Nat} {vm : Array Value} {cv : Value} {x : Is} {W : World} (h : IxS M vm gf j cv X x W) (o : Obj) : IxS M vm gf j cv X x (W.alloc o) :=
  ⟨((Below.one (Below.refl _ W) o).block _ (Array.getElem?_eq_some_iff.1 h.1).1).trans h.1, cell_kept_below h.2.1 (Below.one (Below.refl _ W) o), ((Below.one (Below.refl _ W) o).block _ (Array.getElem?_eq_some_iff.1 h.2.2).1).trans h.2.2⟩
theorem opOf_lt {v : Bt} {k : Nat} (h : opOf v = some k) : k < 20 := by
  have : ∀ (m j : Nat), j + m = 20 → opN v m j = some k → k < 20 := fun m => by
    induction m with
    | zero => intro j _ h; cases h
    | succ m ih =>
      intro j hj h
      rw [opN] at h
      split at h
      · injection h with h; omega
      · exact ih (j + 1) (by omega) h
  exact this 20 0 rfl h
end Go.Proofs.YtboidkmnkicoeaaGreatDoor
