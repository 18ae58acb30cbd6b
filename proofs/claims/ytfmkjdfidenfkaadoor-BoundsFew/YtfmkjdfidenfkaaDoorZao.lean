/- Bounds: is there a span without a number? Bounds, plain: what May's yes says of a function. -/
import Derived.Test.YtfmkjdfidenfkaaDoorUn
namespace Go.Proofs.YtfmkjdfidenfkaaDoor
open Go.RowKit
open S8 (emB sv)

theorem bempty_any (a : Sp) (w : World) : Calls Tryd.prog 36 #[sv a] w fun e w' => e = .returned (.bool (emB a)) ∧ Below w.heap.size w w' := by
  have hb := fun (o1 : Obj) => (Below.one (Below.refl _ w) o1 : Below w.heap.size w _)
  obtain ⟨l, h⟩ := a
  have he : emB (l, h) = decide (l > h) := rfl
  rw [he]
  go_enter Tryd.func36, Tryd.ntmps36
  go_wp2
  go_ret
  exact ⟨rfl, hb _⟩
/-- Where a span without a number stands first. -/
def fstE : List Sp → Nat → Int
  | [], _ => -1
  | s :: l, i => if emB s then i else fstE l (i + 1)
theorem fstE_any : ∀ (l : List Sp) (i : Nat), (0 ≤ fstE l i) = (l.any emB = true)
  | [], i => by simp [fstE]
  | s :: l, i => by
    rw [fstE, List.any_cons]
    by_cases h : emB s = true
    · rw [if_pos h, h]; simp
    · rw [if_neg h, fstE_any l (i + 1)]
      have : emB s = false := by simpa using h
      rw [this]; simp

set_option maxRecDepth 100000 in
set_option maxHeartbeats 4000000 in
theorem indexE_any (l : List Sp) (a : Option Addr) (c : Nat) (w : World) (h : Sps w a l) : Calls Tryd.prog 62 #[.slice a l.length c, .func (.func 36) #[] #[]] w fun e w' => e = .returned (.int .i64 (fstE l 0)) ∧ Below w.heap.size w w' := by
  have HE : Hid (∀ (x y : Int) (W : World), Calls Tryd.prog 36 #[.agg #[.int .i64 x, .int .i64 y]] W fun e w' => e = .returned (.bool (emB (x, y))) ∧ Below W.heap.size W w') := fun x y W => bempty_any (x, y) W
  have HS := Hid.mk' h
  have hl : l.length ≤ 8796093022208 := by have := h.1; omega
  clear h
  go_enter Tryd.func62, Tryd.ntmps62
  go_wp2_with fail
  go_loopw [5, 8] (fun _ t8 wr => ∃ k : Nat, k ≤ l.length ∧ t8 = .int .i64 k ∧ Below w.heap.size w wr ∧ fstE (l.drop k) k = fstE l 0) (fun _ t8 _ => l.length - (intOf t8).toNat)
  case atStart => exact ⟨0, Nat.zero_le _, rfl, Below.refl _ _, rfl⟩
  case round =>
    obtain ⟨k, hk, rfl, hb, hz⟩ := hrel
    by_cases hlt : k < l.length
    · have hli : (k : Int) < (l.length : Int) := by omega
      obtain ⟨b, o, rfl, c0, c1⟩ := sps_at (HS.out.stay hb) hlt
      rw [List.drop_eq_getElem_cons hlt, fstE] at hz
      generalize hs : l[k] = s at *
      obtain ⟨s1, s2⟩ := s
      simp only at c0 c1
      have HZ := Hid.mk' hz
      have HB := Hid.mk' hb
      clear hz hb hs
      by_cases he : emB (s1, s2) = true
      · have HC : Hid (∀ W, Calls Tryd.prog 36 #[.agg #[.int .i64 s1, .int .i64 s2]] W fun e w' => e = .returned (.bool true) ∧ Below W.heap.size W w') := fun W => by have := HE.out s1 s2 W; rwa [he] at this
        have h1 := HZ.out
        rw [if_pos he] at h1
        have HF := Hid.mk' h1
        clear h1 he HZ
        go_wp2_with (go_at_call 36; refine (HC.out _).mono ?_; rintro e w5 ⟨rfl, hb5⟩)
        exact bodyPost_ret (v := .int .i64 (k : Int)) (by simp [results, Tryd.results62, go_sem, *]) rfl ⟨by rw [HF.out], Below.on HB.out hb5⟩
      · have he' : emB (s1, s2) = false := by simpa using he
        have HC : Hid (∀ W, Calls Tryd.prog 36 #[.agg #[.int .i64 s1, .int .i64 s2]] W fun e w' => e = .returned (.bool false) ∧ Below W.heap.size W w') := fun W => by have := HE.out s1 s2 W; rwa [he'] at this
        have h1 := HZ.out
        rw [if_neg he] at h1
        have HF := Hid.mk' h1
        clear h1 he he' HZ
        go_wp2_with (go_at_call 36; refine (HC.out _).mono ?_; rintro e w5 ⟨rfl, hb5⟩)
        go_roundw
        case rel => exact ⟨k + 1, by omega, by go_num, Below.on HB.out hb5, HF.out⟩
        case measure => simp [intOf]; omega
    · obtain rfl : k = l.length := by omega
      rw [List.drop_length, fstE] at hz
      have HF := Hid.mk' hz
      have HB := Hid.mk' hb
      clear hz hb
      go_wp2_with fail
      exact bodyPost_ret (v := .int .i64 (-1)) (by simp [results, Tryd.results62, go_sem, *]) rfl ⟨by rw [← HF.out], HB.out⟩
theorem containsE_any (l : List Sp) (a : Option Addr) (c : Nat) (w : World) (h : Sps w a l) : Calls Tryd.prog 35 #[.slice a l.length c, .func (.func 36) #[] #[]] w fun e w' => e = .returned (.bool (l.any emB)) ∧ Below w.heap.size w w' := by
  have HI := Hid.mk' (indexE_any l a c w h)
  have hq : decide (0 ≤ fstE l 0) = l.any emB := by
    have := fstE_any l 0
    cases hh : l.any emB
    · rw [hh] at this; exact decide_eq_false (by rw [this]; decide)
    · rw [hh] at this; exact decide_eq_true (by rw [this])
  rw [← hq]
  clear hq
  go_enter Tryd.func35, Tryd.ntmps35
  go_wp2_with (go_at_call 62; refine HI.out.mono ?_; rintro e w5 ⟨rfl, hb5⟩)
  exact bodyPost_ret (v := .bool (decide (0 ≤ fstE l 0))) (by simp [results, Tryd.results35, go_sem, *]) rfl ⟨rfl, hb5⟩
end Go.Proofs.YtfmkjdfidenfkaaDoor
namespace Go.Proofs.YtfmkjdfidenfkaaDoor
open Go.RowKit

theorem heads_get {m : Mo} : ∀ (l : List Fn) (i : Nat), (headsN m l i).1 = 0 → ∀ (j : Nat) (f : Fn), l[j]? = some f → (headZ m f (i + j)).1 = 0
  | [], _, _, _, _, h => by cases h
  | g :: l, i, h, j, f, hf => by
    rw [headsN] at h
    by_cases h0 : (headZ m g i).1 ≠ 0
    · rw [if_pos h0] at h; exact absurd h h0
    · rw [if_neg h0] at h
      cases j with
      | zero => injection hf with hf; subst hf; simpa using h0
      | succ j =>
        have := heads_get l (i + 1) h j f (by simpa using hf)
        rwa [show i + 1 + j = i + (j + 1) by omega] at this
theorem codes_get {m : Mo} : ∀ (l : List Fn) (i : Nat), (codesN m l i).1 = 0 → ∀ (j : Nat) (f : Fn), l[j]? = some f → (codeZ m f).1 = 0
  | [], _, _, _, _, h => by cases h
  | g :: l, i, h, j, f, hf => by
    rw [codesN] at h
    by_cases h0 : (codeZ m g).1 ≠ 0
    · rw [if_pos h0] at h; exact absurd h h0
    · rw [if_neg h0] at h
      cases j with
      | zero => injection hf with hf; subst hf; simpa using h0
      | succ j => exact codes_get l (i + 1) h j f (by simpa using hf)
theorem code_get {m : Mo} {f : Fn} : ∀ (l : List Is) (i : Nat), (codeN m f l i).1 = 0 → ∀ (j : Nat) (x : Is), l[j]? = some x → insZ m f x = 0
  | [], _, _, _, _, h => by cases h
  | y :: l, i, h, j, x, hx => by
    rw [codeN] at h
    by_cases h0 : insZ m f y ≠ 0
    · rw [if_pos h0] at h; exact absurd h h0
    · rw [if_neg h0] at h
      cases j with
      | zero => injection hx with hx; subst hx; simpa using h0
      | succ j => exact code_get l (i + 1) h j x (by simpa using hx)
/-- What May's yes says of a function. -/
structure FnOk (m : Mo) (f : Fn) : Prop where
  par : f.params.length ≤ 8
  none : emptN f.params 0 = Option.none
  regs : 1 ≤ f.regs ∧ f.regs ≤ 64 ∧ (f.params.length : Int) ≤ f.regs
  words : 0 ≤ f.words ∧ f.words ≤ 4096
  len : 1 ≤ f.code.length ∧ f.code.length ≤ 1024
  ins : ∀ (k : Nat) (x : Is), f.code[k]? = some x → InsOk m f x
  last : lastOp f = 0 ∨ lastOp f = 14 ∨ lastOp f = 18
theorem fn_ok {m : Mo} (h : (mayZ m).1 = 0) {j : Nat} {f : Fn} (hf : m.funcs[j]? = some f) : FnOk m f := by
  unfold mayZ at h
  by_cases h0 : (wholeZ m).1 ≠ 0
  · rw [if_pos h0] at h; exact absurd h h0
  rw [if_neg h0] at h
  by_cases h1 : (headsN m m.funcs 0).1 ≠ 0
  · rw [if_pos h1] at h; exact absurd h h1
  rw [if_neg h1] at h
  have hh := heads_get m.funcs 0 (by simpa using h1) j f hf
  have hc := codes_get m.funcs 0 h j f hf
  unfold headZ at hh
  by_cases a1 : idB f.name.data.toList = false
  · rw [if_pos a1] at hh; cases hh
  rw [if_neg a1] at hh
  by_cases a2 : fndN m.funcs f.name 0 < ((0 + j : Nat) : Int)
  · rw [if_pos a2] at hh; cases hh
  rw [if_neg a2] at hh
  by_cases a3 : f.params.length > 8
  · rw [if_pos a3] at hh; cases hh
  rw [if_neg a3] at hh
  cases he : emptN f.params 0 with
  | some i => rw [he] at hh; cases hh
  | none =>
    rw [he] at hh
    simp only at hh
    by_cases a4 : f.regs < 1 ∨ f.regs > 64 ∨ f.regs < f.params.length
    · rw [if_pos a4] at hh; cases hh
    rw [if_neg a4] at hh
    by_cases a5 : f.words < 0 ∨ f.words > 4096
    · rw [if_pos a5] at hh; cases hh
    rw [if_neg a5] at hh
    by_cases a6 : f.code.length < 1 ∨ f.code.length > 1024
    · rw [if_pos a6] at hh; cases hh
    unfold codeZ at hc
    by_cases b1 : (codeN m f f.code 0).1 ≠ 0
    · rw [if_pos b1] at hc; exact absurd hc b1
    rw [if_neg b1] at hc
    by_cases b2 : lastOp f = 0 ∨ lastOp f = 14 ∨ lastOp f = 18
    · exact ⟨by omega, he, by omega, by omega, by omega, fun k x hx => ins_ok (code_get f.code 0 (by simpa using b1) k x hx) (by omega), b2⟩
    · rw [if_neg b2] at hc; cases hc
end Go.Proofs.YtfmkjdfidenfkaaDoor
