/- Plain: how long the bytes of a module that may be are. -/
import Derived.Test.YtfamomjgjamnoaaDoorJe
import Derived.Test.YtfamomjgjamnoaaDoorKc
namespace Go.Proofs.YtfamomjgjamnoaaDoor
open Go.RowKit

theorem codesN_zero {m : Mo} : ∀ (l : List Fn) (i : Nat), (codesN m l i).1 = 0 → codesN m l i = (0, 0, 0)
  | [], _, _ => rfl
  | f :: r, i, h => by
    rw [codesN] at h ⊢
    split at h
    · rename_i hne; exact absurd h hne
    · rename_i he
      rw [if_neg he]; exact codesN_zero r (i + 1) h
theorem may_zero {m : Mo} (h : (mayZ m).1 = 0) : mayZ m = (0, 0, 0) := by
  unfold mayZ at h ⊢
  split at h
  · rename_i hne; exact absurd h hne
  · rename_i h1
    rw [if_neg h1]
    split at h
    · rename_i hne; exact absurd h hne
    · rename_i h2
      rw [if_neg h2]; exact codesN_zero _ _ h
theorem may_parts {m : Mo} (h : (mayZ m).1 = 0) : (wholeZ m).1 = 0 ∧ (headsN m m.funcs 0).1 = 0 ∧ (codesN m m.funcs 0).1 = 0 := by
  unfold mayZ at h
  split at h
  · rename_i hne; exact absurd h hne
  · rename_i h1
    split at h
    · rename_i hne; exact absurd h hne
    · rename_i h2
      exact ⟨by simpa using h1, by simpa using h2, h⟩
theorem whole_parts {m : Mo} (h : (wholeZ m).1 = 0) : m.ths.length ≤ 16 ∧ m.funcs.length ≤ 32 := by
  unfold wholeZ at h
  split at h
  · simp at h
  · rename_i h1
    split at h
    · simp at h
    · split at h
      · simp at h
      · exact ⟨by omega, by omega⟩
theorem id_len {l : Bt} (h : idB l = true) : l.length ≤ 16 := by
  cases l with
  | nil => cases h
  | cons c r =>
    simp only [idB, Bool.and_eq_true, decide_eq_true_eq] at h
    exact h.1.1
def In8 (z : Int) : Prop := 0 ≤ z ∧ z ≤ 255
/-- A function whose numbers have room. -/
structure FOk (f : Fn) : Prop where
  nl : f.name.size ≤ 16
  pl : f.params.length ≤ 8
  rg : In8 f.regs
  wd : 0 ≤ f.words ∧ f.words ≤ 65535
  cl : f.code.length ≤ 1024
  ins : ∀ x ∈ f.code, In8 x.op ∧ In8 x.a ∧ In8 x.b ∧ In8 x.c
structure MOk (m : Mo) : Prop where
  tl : m.ths.length ≤ 16
  fl : m.funcs.length ≤ 32
  fs : ∀ f ∈ m.funcs, FOk f
theorem regZ_in {has : Bool} {r regs : Int} (h : regZ has r regs = 0) (hr : regs ≤ 64) : In8 r := by
  unfold regZ at h
  unfold In8
  split at h
  · split at h
    · simp at h
    · omega
  · split at h
    · simp at h
    · omega
theorem may_ok {m : Mo} (h : (mayZ m).1 = 0) : MOk m := by
  obtain ⟨h1, h2, h3⟩ := may_parts h
  obtain ⟨h4, h5⟩ := whole_parts h1
  refine ⟨h4, h5, fun f hf => ?_⟩
  obtain ⟨j, hj⟩ := List.getElem?_of_mem hf
  obtain ⟨d1, _, d3, _, d5, d6, _, d8, d9, d10, d11⟩ := head_rest (heads_ok m.funcs 0 h2 j f hj)
  have hcz := codes_ok m.funcs 0 h3 j f hj
  have hc : (codeN m f f.code 0).1 = 0 := by
    by_cases h4 : (codeN m f f.code 0).1 = 0
    · exact h4
    · unfold codeZ at hcz; rw [if_pos h4] at hcz; exact hcz
  refine ⟨by have := id_len d1; rw [ba_len] at this; exact this, d3, ⟨by omega, by omega⟩, ⟨by omega, by omega⟩, d11, fun x hx => ?_⟩
  obtain ⟨k, hk⟩ := List.getElem?_of_mem hx
  obtain ⟨p0, p1, p2, p3, _⟩ := insZ_parts (code_ok f.code 0 hc k x hk)
  refine ⟨?_, regZ_in p1 d6, regZ_in p2 d6, regZ_in p3 d6⟩
  unfold knB at p0
  unfold In8
  simp at p0
  omega
theorem flat_const {α : Type} {g : α → Bt} {c : Nat} : ∀ {l : List α}, (∀ x ∈ l, (g x).length ≤ c) → (l.flatMap g).length ≤ l.length * c
  | [], _ => by simp
  | x :: l, h => by
    rw [List.flatMap_cons, List.length_append, List.length_cons, Nat.add_mul]
    have h1 := h x (by simp)
    have h2 := flat_const (l := l) (fun y hy => h y (by simp [hy]))
    omega
theorem insB_len (x : Is) : (insB x).length = 12 := by unfold insB; simp only [List.length_append, w1B_len, w8B_len]
theorem spB_len (x : Sp) : (spB x).length = 16 := by unfold spB; simp only [List.length_append, w8B_len]
theorem fnB_len {f : Fn} (h : FOk f) : (fnB f).length ≤ 12439 := by
  have h1 := flat_const (g := spB) (c := 16) (l := f.params) (fun x _ => by rw [spB_len]; omega)
  have h2 := flat_const (g := insB) (c := 12) (l := f.code) (fun x _ => by rw [insB_len]; omega)
  have h3 := h.nl
  have h4 := h.pl
  have h5 := h.cl
  unfold fnB
  simp only [List.length_append, w1B_len, w2B_len, ba_len]
  omega
theorem moB_len {m : Mo} (h : MOk m) : (moB m).length ≤ 398182 := by
  have h1 := flat_const (g := w8B) (c := 8) (l := m.ths) (fun x _ => by rw [w8B_len]; omega)
  have h2 := flat_const (g := fnB) (c := 12439) (l := m.funcs) (fun f hf => fnB_len (h.fs f hf))
  have h3 := h.tl
  have h4 := h.fl
  unfold moB
  simp only [List.length_append, w1B_len, sigB, List.length_cons, List.length_nil]
  omega
/-- What Encode tells. -/
def encB (m : Mo) : Bt := if (mayZ m).1 = 0 then moB m else []
theorem encB_len (m : Mo) : (encB m).length ≤ 398182 := by
  unfold encB
  split
  · rename_i h; exact moB_len (may_ok h)
  · simp
end Go.Proofs.YtfamomjgjamnoaaDoor
