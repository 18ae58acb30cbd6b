/- Plain: what a module that may be keeps. -/
import Derived.Test.YtboidkmnkicoeaaGreatDoorJe
import Derived.Test.YtboidkmnkicoeaaGreatDoorKc
namespace Go.Proofs.YtboidkmnkicoeaaGreatDoor
open Go.RowKit

theorem codesN_zero {m : Mo} : ∀ (l : List Fn) (i : Nat), (codesN m l i).1 = 0 → codesN m l i = (0, 0, 0)
  | [], _, _ => rfl
  | f :: r, i, h => by
    rw [codesN] at h ⊢
    split at h
    · rename_i hne; exact absurd h hne
    · rename_i he
      rw [if_neg he]; exact codesN_zero r (i + 1) h
theorem may_zero {m : Mo} (h : (mayZ m).1 = 0) : mayZ m = (0, 0, 0) := by
  unfold mayZ at h ⊢
  split at h
  · rename_i hne; exact absurd h hne
  · rename_i h1
    rw [if_neg h1]
    split at h
    · rename_i hne; exact absurd h hne
    · rename_i h2
      rw [if_neg h2]; exact codesN_zero _ _ h
theorem may_parts {m : Mo} (h : (mayZ m).1 = 0) : (wholeZ m).1 = 0 ∧ (headsN m m.funcs 0).1 = 0 ∧ (codesN m m.funcs 0).1 = 0 := by
  unfold mayZ at h
  split at h
  · rename_i hne; exact absurd h hne
  · rename_i h1
    split at h
    · rename_i hne; exact absurd h hne
    · rename_i h2
      exact ⟨by simpa using h1, by simpa using h2, h⟩
theorem whole_parts {m : Mo} (h : (wholeZ m).1 = 0) : m.ths.length ≤ 16 ∧ riseN m.ths 0 = none ∧ m.funcs.length ≤ 32 := by
  unfold wholeZ at h
  split at h
  · simp at h
  · rename_i h1
    split at h
    · simp at h
    · rename_i h2
      split at h
      · simp at h
      · exact ⟨by omega, h2, by omega⟩
theorem tw_all {p : UInt8 → Bool} : ∀ (l : Bt), ∀ x ∈ l.takeWhile p, p x = true
  | [], x, h => by simp at h
  | c :: r, x, h => by
    rw [List.takeWhile_cons] at h
    split at h
    · rename_i hc
      rcases List.mem_cons.1 h with rfl | h
      · exact hc
      · exact tw_all r x h
    · simp at h
theorem id_parts {l : Bt} (h : idB l = true) : 1 ≤ l.length ∧ l.length ≤ 16 ∧ ∀ c ∈ l, isLod c = true := by
  cases l with
  | nil => cases h
  | cons c r =>
    simp only [idB, Bool.and_eq_true, decide_eq_true_eq] at h
    refine ⟨by simp, h.1.1, fun x hx => ?_⟩
    have hr : (c :: r).takeWhile isLod = c :: r := by
      have := h.2
      unfold rowLen at this
      exact (List.takeWhile_prefix isLod).eq_of_length this
    rw [← hr] at hx
    exact tw_all _ x hx
theorem lod_signs {c : UInt8} (h : isLod c = true) : c ≠ 32 ∧ c ≠ 10 := by
  constructor
  · rintro rfl; revert h; decide
  · rintro rfl; revert h; decide
/-- What holds of a function of a module that may be. -/
structure OkF (m : Mo) (f : Fn) : Prop where
  nm : idB f.name.data.toList = true
  pa : f.params.length ≤ 8
  cl : 1 ≤ f.code.length
  cm : f.code.length ≤ 1024
  ins : ∀ x ∈ f.code, insZ m f x = 0
theorem may_fn {m : Mo} (h : (mayZ m).1 = 0) {f : Fn} (hf : f ∈ m.funcs) : OkF m f := by
  obtain ⟨h1, h2, h3⟩ := may_parts h
  obtain ⟨j, hj⟩ := List.getElem?_of_mem hf
  have hd := head_rest (heads_ok m.funcs 0 h2 j f hj)
  have hcz := codes_ok m.funcs 0 h3 j f hj
  have h4 : (codeN m f f.code 0).1 = 0 := by
    by_cases h4 : (codeN m f f.code 0).1 = 0
    · exact h4
    · unfold codeZ at hcz; rw [if_pos h4] at hcz; exact hcz
  refine ⟨hd.1, hd.2.2.1, hd.2.2.2.2.2.2.2.2.2.1, hd.2.2.2.2.2.2.2.2.2.2, fun x hx => ?_⟩
  obtain ⟨k, hk⟩ := List.getElem?_of_mem hx
  exact code_ok f.code 0 h4 k x hk
theorem may_pr {m : Mo} (h : (mayZ m).1 = 0) : PrOk m := by
  obtain ⟨h1, _, _⟩ := may_parts h
  obtain ⟨h4, _, h5⟩ := whole_parts h1
  refine ⟨h4, h5, fun f hf => ?_⟩
  have ho := may_fn h hf
  have hid := id_parts ho.nm
  refine ⟨by rw [← ba_len]; exact hid.2.1, ho.pa, ho.cm, fun x hx => ?_⟩
  have hk := (insZ_parts (ho.ins x hx)).1
  unfold knB at hk; simpa using hk
end Go.Proofs.YtboidkmnkicoeaaGreatDoor

/- Plain: of what has been read no more is kept than it takes to know what is wrong. -/
namespace Go.Proofs.YtboidkmnkicoeaaGreatDoor
open Go.RowKit

def trF (f : Fn) : Fn := { f with params := f.params.take 9, code := f.code.take 1025 }
/-- What is kept of the functions that have been read. -/
def Tr (gs fs : List Fn) : Prop := gs.length = min 33 fs.length ∧ ∀ i, i < 32 → ∀ g, gs[i]? = some g → ∃ f, fs[i]? = some f ∧ g.er = trF f
theorem Tr.nil : Tr [] [] := ⟨rfl, fun i _ g h => by simp at h⟩
theorem Tr.head {gs fs : List Fn} (h : Tr gs fs) (hl : fs.length ≤ 32) {g f : Fn} (he : g.er = trF f) : Tr (gs ++ [g]) (fs ++ [f]) := by
  have hlen : gs.length = fs.length := by have := h.1; omega
  refine ⟨by simp; omega, fun i hi x hx => ?_⟩
  by_cases hlt : i < gs.length
  · rw [List.getElem?_append_left hlt] at hx
    obtain ⟨f', h1, h2⟩ := h.2 i hi x hx
    exact ⟨f', by rw [List.getElem?_append_left (by omega)]; exact h1, h2⟩
  · rw [List.getElem?_append_right (by omega)] at hx
    have hi' : i - gs.length = 0 := by
      cases hq : i - gs.length with
      | zero => rfl
      | succ q => rw [hq] at hx; simp at hx
    rw [hi'] at hx
    simp at hx
    subst hx
    exact ⟨f, by rw [List.getElem?_append_right (by omega), show i - fs.length = 0 by omega]; rfl, he⟩
theorem Tr.full {gs fs : List Fn} (h : Tr gs fs) (hl : 33 ≤ fs.length) (f : Fn) : Tr gs (fs ++ [f]) := by
  refine ⟨by have := h.1; simp; omega, fun i hi x hx => ?_⟩
  obtain ⟨f', h1, h2⟩ := h.2 i hi x hx
  exact ⟨f', by rw [List.getElem?_append_left (by omega)]; exact h1, h2⟩
/-- The last function has one instruction more. -/
theorem Tr.last {gs fs gs' : List Fn} (h : Tr gs fs) (hf : fs ≠ []) (x : Is) (hl : gs'.length = gs.length) (hs : ∀ i, i + 1 < gs.length → gs'[i]? = gs[i]?) (hx : ∀ g f, gs[gs.length - 1]? = some g → g.er = trF f → ∀ g', gs'[gs.length - 1]? = some g' → g'.er = trF (moreI x f)) : Tr gs' (fs.modify (fs.length - 1) (moreI x)) := by
  have hfl : 1 ≤ fs.length := by cases fs with | nil => exact absurd rfl hf | cons a b => simp
  have hlen := h.1
  refine ⟨by rw [hl, List.length_modify]; exact hlen, fun i hi y hy => ?_⟩
  have hig : i < gs.length := by rw [← hl]; exact (List.getElem?_eq_some_iff.1 hy).1
  obtain ⟨g, hg⟩ : ∃ g, gs[i]? = some g := ⟨_, List.getElem?_eq_getElem hig⟩
  obtain ⟨f, h1, h2⟩ := h.2 i hi g hg
  by_cases hlt : i + 1 < gs.length
  · rw [hs i hlt, hg] at hy
    injection hy with hy
    subst hy
    refine ⟨f, ?_, h2⟩
    rw [List.getElem?_modify, h1]
    show some (if fs.length - 1 = i then moreI x f else f) = _
    rw [if_neg (by omega)]
  · have hil : i = gs.length - 1 := by omega
    rw [hil] at hg hy
    refine ⟨moreI x f, ?_, hx g f hg h2 y hy⟩
    rw [List.getElem?_modify, h1]
    show some (if fs.length - 1 = i then moreI x f else f) = _
    rw [if_pos (by omega)]
theorem er_eq {f : Fn} (h : f.er = f) : ∀ x, (moreI x f).er = moreI x f := fun x => by
  unfold moreI Fn.er at *
  rw [← h]

/-- Names alone say where a name stands. -/
theorem fndN_names (s : ByteArray) : ∀ (l t : List Fn) (i : Nat), l.map Fn.name = t.map Fn.name → fndN l s i = fndN t s i
  | [], [], _, _ => rfl
  | [], _ :: _, _, h => by simp at h
  | _ :: _, [], _, h => by simp at h
  | a :: l, b :: t, i, h => by
    simp only [List.map_cons, List.cons.injEq] at h
    rw [fndN, fndN, h.1, fndN_names s l t (i + 1) h.2]
theorem headZ_tr {m m' : Mo} (hn : m'.funcs.map Fn.name = m.funcs.map Fn.name) {g f : Fn} (he : g.er = trF f) (k : Nat) : headZ m' g k = headZ m f k := by
  have h0 : g.name = f.name := by have := congrArg Fn.name he; exact this
  have h1 : g.params = f.params.take 9 := by have := congrArg Fn.params he; exact this
  have h2 : g.regs = f.regs := by have := congrArg Fn.regs he; exact this
  have h3 : g.words = f.words := by have := congrArg Fn.words he; exact this
  have h4 : g.code = f.code.take 1025 := by have := congrArg Fn.code he; exact this
  unfold headZ
  rw [h0, fndN_names _ _ _ 0 hn, h1, h2, h3, h4]
  by_cases hp : f.params.length > 8
  · rw [if_pos (show (f.params.take 9).length > 8 by rw [List.length_take]; omega), if_pos hp]
  · rw [if_neg (show ¬ (f.params.take 9).length > 8 by rw [List.length_take]; omega), if_neg hp, List.take_of_length_le (by omega)]
    have hc : ((f.code.take 1025).length < 1 ∨ (f.code.take 1025).length > 1024) ↔ (f.code.length < 1 ∨ f.code.length > 1024) := by rw [List.length_take]; omega
    simp only [hc]
theorem headsN_tr {m m' : Mo} (hn : m'.funcs.map Fn.name = m.funcs.map Fn.name) : ∀ (l t : List Fn) (i : Nat), l.map Fn.er = t.map trF → headsN m' l i = headsN m t i
  | [], [], _, _ => rfl
  | [], _ :: _, _, h => by simp at h
  | _ :: _, [], _, h => by simp at h
  | a :: l, b :: t, i, h => by
    simp only [List.map_cons, List.cons.injEq] at h
    rw [headsN, headsN, headZ_tr hn h.1, headsN_tr hn l t (i + 1) h.2]
theorem tr_map {gs fs : List Fn} (h : Tr gs fs) (hl : fs.length ≤ 32) : gs.map Fn.er = fs.map trF := by
  have hlen : gs.length = fs.length := by have := h.1; omega
  refine List.ext_getElem? fun i => ?_
  rw [List.getElem?_map, List.getElem?_map]
  by_cases hi : i < gs.length
  · obtain ⟨f, h1, h2⟩ := h.2 i (by omega) gs[i] (List.getElem?_eq_getElem hi)
    rw [List.getElem?_eq_getElem hi, h1]
    simp [h2]
  · rw [List.getElem?_eq_none (by omega), List.getElem?_eq_none (by omega)]; rfl
theorem trF_self {f : Fn} (hp : f.params.length ≤ 8) (hc : f.code.length ≤ 1024) : trF f = f := by
  unfold trF
  rw [List.take_of_length_le (by omega), List.take_of_length_le (by omega)]
/-- What is kept is wrong just as what was read is; and it is that, if nothing is wrong. -/
theorem tr_may {gs : List Fn} {d : Dr} (h : Tr gs d.fs) (hf : ∀ f ∈ d.fs, f.er = f) (ta : Option Addr) (tc : Nat) (fa : Option Addr) (fc : Nat) : mayZ ⟨ta, tc, d.ths.take 20, fa, fc, gs⟩ = mayZ (moD d) ∧ ((mayZ (moD d)).1 = 0 → Mo.er ⟨ta, tc, d.ths.take 20, fa, fc, gs⟩ = moD d) := by
  have hw : wholeZ ⟨ta, tc, d.ths.take 20, fa, fc, gs⟩ = wholeZ (moD d) := by
    unfold wholeZ moD
    simp only
    by_cases ht : d.ths.length > 16
    · rw [if_pos (show (d.ths.take 20).length > 16 by rw [List.length_take]; omega), if_pos ht]
    · rw [if_neg (show ¬ (d.ths.take 20).length > 16 by rw [List.length_take]; omega), if_neg ht, List.take_of_length_le (by omega)]
      have hc : (gs.length > 32) ↔ (d.fs.length > 32) := by have := h.1; omega
      simp only [hc]
  by_cases h0 : (wholeZ (moD d)).1 = 0
  · obtain ⟨w1, _, w3⟩ := whole_parts h0
    have w3' : d.fs.length ≤ 32 := w3
    have w1' : d.ths.length ≤ 16 := w1
    have hm := tr_map h w3'
    have hn : gs.map Fn.name = d.fs.map Fn.name := by
      have := congrArg (List.map Fn.name) hm
      rw [List.map_map, List.map_map] at this
      exact this
    have hh : headsN ⟨ta, tc, d.ths.take 20, fa, fc, gs⟩ gs 0 = headsN (moD d) d.fs 0 := headsN_tr (m := moD d) (m' := ⟨ta, tc, d.ths.take 20, fa, fc, gs⟩) hn gs d.fs 0 hm
    by_cases h1 : (headsN (moD d) d.fs 0).1 = 0
    · have he : Mo.er ⟨ta, tc, d.ths.take 20, fa, fc, gs⟩ = moD d := by
        unfold Mo.er moD
        rw [List.take_of_length_le (by omega)]
        simp only [Mo.mk.injEq, true_and]
        rw [hm]
        refine (List.map_congr_left (g := id) fun f hfm => ?_).trans (by simp)
        obtain ⟨j, hj⟩ := List.getElem?_of_mem hfm
        have hd := head_rest (heads_ok d.fs 0 h1 j f hj)
        rw [trF_self hd.2.2.1 hd.2.2.2.2.2.2.2.2.2.2]; rfl
      refine ⟨?_, fun _ => he⟩
      have he2 : (moD d).er = moD d := by
        unfold Mo.er moD
        simp only [Mo.mk.injEq, true_and]
        exact (List.map_congr_left (g := id) fun f hfm => hf f hfm).trans (by simp)
      exact mayZ_same (by rw [he, he2])
    · have e2 : mayZ (moD d) = headsN (moD d) d.fs 0 := by
        unfold mayZ
        rw [if_neg (by rw [h0]; decide), if_pos (show (headsN (moD d) (moD d).funcs 0).1 ≠ 0 from h1)]; rfl
      have e1 : mayZ ⟨ta, tc, d.ths.take 20, fa, fc, gs⟩ = headsN (moD d) d.fs 0 := by
        unfold mayZ
        rw [hw, if_neg (by rw [h0]; decide)]
        simp only
        rw [hh, if_pos h1]
      exact ⟨by rw [e1, e2], fun hz => absurd (by rw [← e2]; exact hz) h1⟩
  · have e2 : mayZ (moD d) = wholeZ (moD d) := by unfold mayZ; rw [if_pos h0]
    have e1 : mayZ ⟨ta, tc, d.ths.take 20, fa, fc, gs⟩ = wholeZ (moD d) := by unfold mayZ; rw [hw, if_pos h0]
    exact ⟨by rw [e1, e2], fun hz => absurd (by rw [← e2]; exact hz) h0⟩
/-- Where a fault lies. -/
theorem headsN_at {m : Mo} : ∀ (l : List Fn) (i : Nat), (headsN m l i).1 ≠ 0 → (i : Int) ≤ (headsN m l i).2.1 ∧ (headsN m l i).2.1 < ((i + l.length : Nat) : Int)
  | [], _, h => absurd rfl h
  | f :: r, i, h => by
    rw [headsN] at h ⊢
    split
    · exact ⟨by simp, by simp; omega⟩
    · rename_i hh
      rw [if_neg hh] at h
      have := headsN_at r (i + 1) h
      simp only [List.length_cons] at *
      omega
theorem codesN_at {m : Mo} : ∀ (l : List Fn) (i : Nat), (codesN m l i).1 ≠ 0 → (i : Int) ≤ (codesN m l i).2.1 ∧ (codesN m l i).2.1 < ((i + l.length : Nat) : Int)
  | [], _, h => absurd rfl h
  | f :: r, i, h => by
    rw [codesN] at h ⊢
    split
    · exact ⟨by simp, by simp; omega⟩
    · rename_i hh
      rw [if_neg hh] at h
      have := codesN_at r (i + 1) h
      simp only [List.length_cons] at *
      omega
theorem may_at {m : Mo} (h : (mayZ m).1 ≠ 0) (h66 : (mayZ m).1 ≠ 66) (ht : ¬ m.ths.length > 16) : 0 ≤ (mayZ m).2.1 ∧ (mayZ m).2.1 < ((min 33 m.funcs.length : Nat) : Int) := by
  by_cases h0 : (wholeZ m).1 = 0
  · obtain ⟨w1, _, w3⟩ := whole_parts h0
    by_cases h1 : (headsN m m.funcs 0).1 = 0
    · have e : mayZ m = codesN m m.funcs 0 := by unfold mayZ; rw [if_neg (by rw [h0]; decide), if_neg (by rw [h1]; decide)]
      rw [e] at h ⊢
      have := codesN_at m.funcs 0 h
      omega
    · have e : mayZ m = headsN m m.funcs 0 := by unfold mayZ; rw [if_neg (by rw [h0]; decide), if_pos h1]
      rw [e]
      have := headsN_at m.funcs 0 h1
      omega
  · have e : mayZ m = wholeZ m := by unfold mayZ; rw [if_pos h0]
    rw [e] at h66 ⊢
    unfold wholeZ at h0 h66 ⊢
    rw [if_neg ht] at h0 h66 ⊢
    cases hr : riseN m.ths 0 with
    | some i => rw [hr] at h66; exact absurd rfl h66
    | none =>
      rw [hr] at h0
      simp only at h0 ⊢
      split
      · simp; omega
      · rename_i hf; rw [if_neg hf] at h0; exact absurd rfl h0
end Go.Proofs.YtboidkmnkicoeaaGreatDoor

/- Plain: where in a module a fault lies, in bounds. -/
namespace Go.Proofs.YtboidkmnkicoeaaGreatDoor
open Go.RowKit

theorem riseN_le : ∀ (l : List Int) (i k : Nat), riseN l i = some k → k ≤ i + l.length
  | [], _, _, h => by simp [riseN] at h
  | [_], _, _, h => by simp [riseN] at h
  | a :: b :: r, i, k, h => by
    rw [riseN] at h
    split at h
    · injection h with h; simp; omega
    · have := riseN_le (b :: r) (i + 1) k h
      simp only [List.length_cons] at *
      omega
theorem emptN_le : ∀ (l : List Sp) (i k : Nat), emptN l i = some k → k ≤ i + l.length
  | [], _, _, h => by simp [emptN] at h
  | a :: r, i, k, h => by
    rw [emptN] at h
    split at h
    · injection h with h; simp; omega
    · have := emptN_le r (i + 1) k h
      simp only [List.length_cons] at *
      omega
theorem headZ_le (m : Mo) (f : Fn) (k : Nat) (hp : f.params.length ≤ 9) : 0 ≤ (headZ m f k).2 ∧ (headZ m f k).2 ≤ 2000 := by
  unfold headZ
  split
  · simp
  · split
    · simp
    · split
      · simp
      · split
        · rename_i i hi
          have := emptN_le f.params 0 i hi
          simp only
          omega
        · split
          · simp
          · split
            · simp
            · split <;> simp
theorem codeN_le {m : Mo} {f : Fn} : ∀ (l : List Is) (i : Nat), 0 ≤ (codeN m f l i).2 ∧ (codeN m f l i).2 ≤ ((i + l.length : Nat) : Int)
  | [], i => by simp [codeN]
  | x :: r, i => by
    rw [codeN]
    split
    · simp; omega
    · have := codeN_le (m := m) (f := f) r (i + 1)
      simp only [List.length_cons] at *
      omega
theorem codeZ_le (m : Mo) (f : Fn) (h0 : 1 ≤ f.code.length) (hc : f.code.length ≤ 1025) : 0 ≤ (codeZ m f).2 ∧ (codeZ m f).2 ≤ 2000 := by
  have := codeN_le (m := m) (f := f) f.code 0
  unfold codeZ
  split
  · omega
  · split
    · simp
    · simp only; omega
theorem headsN_le {m : Mo} : ∀ (l : List Fn) (i : Nat), (∀ f ∈ l, f.params.length ≤ 9) → 0 ≤ (headsN m l i).2.2 ∧ (headsN m l i).2.2 ≤ 2000
  | [], _, _ => by simp [headsN]
  | f :: r, i, h => by
    rw [headsN]
    split
    · exact headZ_le m f i (h f (by simp))
    · exact headsN_le r (i + 1) (fun g hg => h g (by simp [hg]))
theorem codesN_le {m : Mo} : ∀ (l : List Fn) (i : Nat), (∀ f ∈ l, 1 ≤ f.code.length ∧ f.code.length ≤ 1025) → 0 ≤ (codesN m l i).2.2 ∧ (codesN m l i).2.2 ≤ 2000
  | [], _, _ => by simp [codesN]
  | f :: r, i, h => by
    rw [codesN]
    split
    · exact codeZ_le m f (h f (by simp)).1 (h f (by simp)).2
    · exact codesN_le r (i + 1) (fun g hg => h g (by simp [hg]))
theorem may_le {m : Mo} (ht : m.ths.length ≤ 20) (hf : ∀ f ∈ m.funcs, f.params.length ≤ 9 ∧ f.code.length ≤ 1025) : 0 ≤ (mayZ m).2.2 ∧ (mayZ m).2.2 ≤ 2000 := by
  unfold mayZ
  split
  · unfold wholeZ
    split
    · simp
    · split
      · rename_i i hi
        have := riseN_le m.ths 0 i hi
        simp only
        omega
      · split <;> simp
  · split
    · exact headsN_le m.funcs 0 (fun f hf' => (hf f hf').1)
    · rename_i h1 h2
      refine codesN_le m.funcs 0 (fun f hf' => ⟨?_, (hf f hf').2⟩)
      have h2' : (headsN m m.funcs 0).1 = 0 := by simpa using h2
      obtain ⟨j, hj⟩ := List.getElem?_of_mem hf'
      exact (head_rest (heads_ok m.funcs 0 h2' j f hj)).2.2.2.2.2.2.2.2.2.1
/-- What holds of all that has been read. -/
structure DOk (n : Nat) (d : Dr) : Prop where
  len : d.hs.length = d.fs.length
  er : ∀ f ∈ d.fs, f.er = f
  ths : ∀ z ∈ d.ths, I64 z
  hs : ∀ h ∈ d.hs, h ≤ n
end Go.Proofs.YtboidkmnkicoeaaGreatDoor
