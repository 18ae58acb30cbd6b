/- Plain: numbers of 64 bits and their texts, there and back. -/
import Derived.Test.YtboidkmnkicoeaaGreatDoorJa
import Derived.Lib.ItoaMem
import Derived.Lib.ItoaLen
import Derived.Lib.ParseIntBTie
namespace Go.Proofs.YtboidkmnkicoeaaGreatDoor
open Go.RowKit

abbrev Bt := List UInt8
theorem u8_digit {d : Nat} (h : d < 10) : (UInt8.ofNat (48 + d)).toNat = 48 + d := by
  rw [UInt8.toNat_ofNat', Nat.mod_eq_of_lt (by omega)]
theorem digit_u8 {c : UInt8} (h1 : 48 ≤ c.toNat) : UInt8.ofNat (48 + (c.toNat - 48)) = c := by
  apply UInt8.toNat_inj.1
  rw [UInt8.toNat_ofNat', Nat.mod_eq_of_lt (by have := c.toNat_lt; omega)]
  omega
theorem dec_step {u : Nat} (h : ¬ u < 10) : Lib.decDigits u = Lib.decDigits (u / 10) ++ [UInt8.ofNat (48 + u % 10)] := by
  rw [Lib.decDigits, dif_neg h]
/-- What digits come to. -/
def pvF (a : Nat) (l : Bt) : Nat := l.foldl (fun a c => a * 10 + (c.toNat - 48)) a
theorem pvF_app (a : Nat) (l : Bt) (c : UInt8) : pvF a (l ++ [c]) = pvF a l * 10 + (c.toNat - 48) := by simp [pvF]
theorem pvF_le : ∀ (l : Bt) (a : Nat), a ≤ pvF a l
  | [], a => Nat.le_refl _
  | c :: l, a => by
    have := pvF_le l (a * 10 + (c.toNat - 48))
    show a ≤ pvF (a * 10 + (c.toNat - 48)) l
    omega
def DigL (l : Bt) : Prop := ∀ c ∈ l, 48 ≤ c.toNat ∧ c.toNat ≤ 57
theorem dec_parts (n : Nat) : DigL (Lib.decDigits n) ∧ pvF 0 (Lib.decDigits n) = n ∧ ∃ c l, Lib.decDigits n = c :: l ∧ (c.toNat = 48 → n = 0) := by
  induction n using Nat.strongRecOn with
  | _ n ih =>
    by_cases h : n < 10
    · rw [Lib.decDigits_one h]
      refine ⟨fun c hc => ?_, ?_, _, _, rfl, ?_⟩
      · rw [List.mem_singleton] at hc; subst hc; rw [u8_digit h]; omega
      · simp [pvF]
        have : (48 + n) % 256 = 48 + n := Nat.mod_eq_of_lt (by omega)
        omega
      · rw [u8_digit h]; omega
    · obtain ⟨i1, i2, c, l, i3, i4⟩ := ih (n / 10) (by omega)
      rw [dec_step h]
      refine ⟨fun c hc => ?_, ?_, c, l ++ [UInt8.ofNat (48 + n % 10)], by rw [i3]; rfl, fun e => by have := i4 e; omega⟩
      · rcases List.mem_append.1 hc with hc | hc
        · exact i1 c hc
        · rw [List.mem_singleton] at hc; subst hc; rw [u8_digit (by omega)]; omega
      · rw [pvF_app, i2, u8_digit (by omega)]; omega
/-- Digits that are no number's own text begin with 0. -/
theorem dec_of (l : Bt) : DigL l → (∀ c, l.head? = some c → c.toNat = 48 → l.length = 1) → l ≠ [] → Lib.decDigits (pvF 0 l) = l := by
  intro hd hz hn
  have key : ∀ (r : Bt), DigL r → r ≠ [] → (∀ c, r.head? = some c → c.toNat ≠ 48) → Lib.decDigits (pvF 0 r) = r ∧ 1 ≤ pvF 0 r := by
    intro r
    induction hr : r.length generalizing r with
    | zero => intro _ hne; exact absurd (List.eq_nil_of_length_eq_zero hr) hne
    | succ k ih =>
      intro hd hne hz
      obtain ⟨t, c, rfl⟩ : ∃ t c, r = t ++ [c] := ⟨r.dropLast, r.getLast hne, (List.dropLast_concat_getLast hne).symm⟩
      have hc := hd c (by simp)
      rw [pvF_app]
      by_cases ht : t = []
      · subst ht
        have h48 := hz c rfl
        refine ⟨?_, by simp [pvF]; omega⟩
        simp only [pvF, List.foldl_nil, Nat.zero_mul, Nat.zero_add, List.nil_append]
        rw [Lib.decDigits_one (by omega), digit_u8 hc.1]
      · obtain ⟨i1, i2⟩ := ih t (by simpa using hr) (fun x hx => hd x (by simp [hx])) ht (fun x hx => hz x (by rw [List.head?_append, hx]; rfl))
        refine ⟨?_, by omega⟩
        rw [dec_step (by omega), show (pvF 0 t * 10 + (c.toNat - 48)) / 10 = pvF 0 t by omega, show (pvF 0 t * 10 + (c.toNat - 48)) % 10 = c.toNat - 48 by omega, i1, digit_u8 hc.1]
  cases l with
  | nil => exact absurd rfl hn
  | cons c r =>
    by_cases h : c.toNat = 48
    · have h1 := hz c rfl h
      have hr : r = [] := List.eq_nil_of_length_eq_zero (by simpa using h1)
      subst hr
      have e : c = 48 := UInt8.toNat_inj.1 h
      subst e
      show Lib.decDigits (0 * 10 + ((48 : UInt8).toNat - 48)) = _
      rw [show 0 * 10 + ((48 : UInt8).toNat - 48) = 0 from rfl, Lib.decDigits_one (by omega)]
      rfl
    · exact (key (c :: r) hd (by simp) (fun x hx => by simp at hx; subst hx; exact h)).1
theorem parseM (l : Bt) : ∀ (a : Nat), DigL l → pvF a l ≤ 18446744073709551615 → Lib.parseUintM 18446744073709551615 a l = .ok (pvF a l) := by
  induction l with
  | nil => intro a _ _; rfl
  | cons c r ih =>
    intro a hd hv
    have hc := hd c (by simp)
    have hle := pvF_le r (a * 10 + (c.toNat - 48))
    have hv' : pvF (a * 10 + (c.toNat - 48)) r ≤ 18446744073709551615 := hv
    rw [Lib.parseUintM, if_pos hc, if_neg (by omega), if_neg (by omega), ih _ (fun x hx => hd x (by simp [hx])) hv']
    rfl
theorem parseU {l : Bt} (hd : DigL l) (hn : l ≠ []) (hv : pvF 0 l ≤ 18446744073709551615) : Lib.parseUintB 64 l = .ok (pvF 0 l) := by
  unfold Lib.parseUintB
  rw [if_neg hn, show 2 ^ 64 - 1 = 18446744073709551615 from rfl]
  exact parseM l 0 hd hv
/-- The number of a word in the one form. -/
def numB (w : Bt) : Option Int := match Lib.parseIntB 64 w with | .ok n => if Lib.itoa n = w then some n else none | _ => none
theorem parse_itoa {n : Int} (h : I64 n) : Lib.parseIntB 64 (Lib.itoa n) = .ok n := by
  unfold I64 at h
  by_cases hn : n < 0
  · obtain ⟨u, rfl⟩ : ∃ u : Nat, n = -(u : Int) := ⟨(-n).toNat, by omega⟩
    obtain ⟨h1, h2, c, l, h3, h4⟩ := dec_parts u
    rw [Lib.itoa_neg u (by omega), Lib.parseIntB_minus, parseU h1 (by rw [h3]; simp) (by rw [h2]; omega), h2]
    show (if 2 ^ (64 - 1) < u then _ else _) = _
    rw [if_neg (by omega)]
  · obtain ⟨u, rfl⟩ : ∃ u : Nat, n = (u : Int) := ⟨n.toNat, by omega⟩
    obtain ⟨h1, h2, c, l, h3, h4⟩ := dec_parts u
    have hc := h1 c (by rw [h3]; simp)
    rw [Lib.itoa_nonneg, h3, Lib.parseIntB_plain _ _ _ (by omega) (by omega), ← h3, parseU h1 (by rw [h3]; simp) (by rw [h2]; omega), h2]
    show (if 2 ^ (64 - 1) ≤ u then _ else _) = _
    rw [if_neg (by omega)]
theorem numB_itoa {n : Int} (h : I64 n) : numB (Lib.itoa n) = some n := by
  unfold numB; rw [parse_itoa h]; simp
theorem numB_some {w : Bt} {n : Int} (h : numB w = some n) : w = Lib.itoa n ∧ I64 n := by
  unfold numB at h
  split at h
  · next v hv =>
    split at h
    · next he =>
      obtain rfl : v = n := by simpa using h
      have hb := Lib.parseIntB_bounds hv
      refine ⟨he.symm, ?_⟩
      unfold I64
      have e : ((2 ^ (64 - 1) : Nat) : Int) = 9223372036854775808 := rfl
      rw [e] at hb
      omega
    · cases h
  · cases h
theorem numB_none {w : Bt} (h : ∀ n, I64 n → w ≠ Lib.itoa n) : numB w = none := by
  cases e : numB w with
  | none => rfl
  | some n => exact absurd (numB_some e).1 (h n (numB_some e).2)
/-- A number's text has neither blanks nor ends of lines, and isn't empty. -/
theorem itoa_signs (n : Int) : ∀ c ∈ Lib.itoa n, c.toNat = 45 ∨ (48 ≤ c.toNat ∧ c.toNat ≤ 57) := by
  intro c hc
  unfold Lib.itoa at hc
  split at hc
  · rcases List.mem_cons.1 hc with rfl | hc
    · exact .inl rfl
    · exact .inr ((dec_parts _).1 c hc)
  · exact .inr ((dec_parts _).1 c hc)
theorem itoa_ne (n : Int) : Lib.itoa n ≠ [] := by
  unfold Lib.itoa
  split
  · simp
  · obtain ⟨_, _, c, l, h, _⟩ := dec_parts n.toNat
    rw [h]; simp
theorem itoa_len {n : Int} (h : I64 n) : (Lib.itoa n).length ≤ 21 := Lib.itoa_length_le n h.1 h.2

/-- The document's own reading of digits: none where one is no digit, or where they come to more than 2^63. -/
def rdg : Bt → Nat → Option Nat
  | [], v => some v
  | c :: r, v => if 48 ≤ c.toNat ∧ c.toNat ≤ 57 then (if 9223372036854775808 < v * 10 + (c.toNat - 48) then none else rdg r (v * 10 + (c.toNat - 48))) else none
theorem rdg_some : ∀ (l : Bt) (a v : Nat), a ≤ 9223372036854775808 → rdg l a = some v → DigL l ∧ v = pvF a l ∧ v ≤ 9223372036854775808
  | [], a, v, ha, h => by
    simp only [rdg, Option.some.injEq] at h
    subst h
    exact ⟨fun c hc => by simp at hc, rfl, ha⟩
  | c :: r, a, v, ha, h => by
    rw [rdg] at h
    split at h
    · next hc =>
      split at h
      · cases h
      · next hle =>
        obtain ⟨h1, h2, h3⟩ := rdg_some r _ v (by omega) h
        refine ⟨fun x hx => ?_, h2, h3⟩
        rcases List.mem_cons.1 hx with rfl | hx
        · exact hc
        · exact h1 x hx
    · cases h
theorem rdg_of : ∀ (l : Bt) (a : Nat), DigL l → pvF a l ≤ 9223372036854775808 → rdg l a = some (pvF a l)
  | [], _, _, _ => rfl
  | c :: r, a, hd, hv => by
    have hc := hd c (by simp)
    have hle := pvF_le r (a * 10 + (c.toNat - 48))
    have hv' : pvF (a * 10 + (c.toNat - 48)) r ≤ 9223372036854775808 := hv
    rw [rdg, if_pos hc, if_neg (by omega), rdg_of r _ (fun x hx => hd x (by simp [hx])) hv']
    rfl
/-- The document's own number of a word: behind its sign, with the digits read; plain. -/
def rnB (neg : Bool) (ds : Bt) (one : Bool) : Option Int :=
  if ds = [] ∨ (ds.head?.map (·.toNat) = some 48 ∧ one = false) then none else
  match rdg ds 0 with
  | none => none
  | some v => if neg then some (-(v : Int)) else if v = 9223372036854775808 then none else some v
theorem rnB_minus (r : Bt) : rnB true r false = numB (45 :: r) := by
  cases hz : decide (r = [] ∨ (r.head?.map (·.toNat) = some 48)) with
  | true =>
    have hz := of_decide_eq_true hz
    rw [rnB, if_pos (by rcases hz with h | h; exact .inl h; exact .inr ⟨h, rfl⟩)]
    refine (numB_none fun n hn e => ?_).symm
    unfold Lib.itoa at e
    split at e
    · next hneg =>
      injection e with _ e
      obtain ⟨h1, h2, c, l, h3, h4⟩ := dec_parts n.natAbs
      rcases hz with h | h
      · subst h; rw [h3] at e; cases e
      · rw [e, h3] at h
        have := h4 (by simpa using h)
        omega
    · obtain ⟨h1, h2, c, l, h3, h4⟩ := dec_parts n.toNat
      have hc := h1 c (by rw [h3]; simp)
      rw [h3] at e
      injection e with e _
      subst e
      have : (45 : UInt8).toNat = 45 := rfl
      omega
  | false =>
    have hz := of_decide_eq_false hz
    rw [rnB, if_neg (by intro h; apply hz; rcases h with h | h; exact .inl h; exact .inr h.1)]
    have hne : r ≠ [] := fun h => hz (.inl h)
    have h0 : ∀ c, r.head? = some c → c.toNat ≠ 48 := fun c hc e => hz (.inr (by rw [hc]; simpa using e))
    cases e : rdg r 0 with
    | some v =>
      obtain ⟨h1, h2, h3⟩ := rdg_some r 0 v (by omega) e
      have hd := dec_of r h1 (fun c hc e => absurd e (h0 c hc)) hne
      rw [← h2] at hd
      have hv : 1 ≤ v := by
        cases v with
        | zero =>
          rw [Lib.decDigits_one (by omega)] at hd
          exact absurd (by rw [← hd]; rfl) (fun hh => (h0 (UInt8.ofNat (48 + 0)) hh) rfl)
        | succ v => omega
      have : 45 :: r = Lib.itoa (-(v : Int)) := by rw [Lib.itoa_neg v hv, hd]
      rw [this, numB_itoa (by unfold I64; omega)]
      rfl
    | none =>
      refine (numB_none fun n hn e' => ?_).symm
      unfold Lib.itoa at e'
      unfold I64 at hn
      split at e'
      · next hneg =>
        injection e' with _ e'
        obtain ⟨h1, h2, c, l, h3, h4⟩ := dec_parts n.natAbs
        rw [e', rdg_of _ 0 h1 (by rw [h2]; omega)] at e
        cases e
      · obtain ⟨h1, h2, c, l, h3, h4⟩ := dec_parts n.toNat
        have hc := h1 c (by rw [h3]; simp)
        rw [h3] at e'
        injection e' with e' _
        subst e'
        have : (45 : UInt8).toNat = 45 := rfl
        omega
theorem rnB_plain (l : Bt) (h : ∀ c, l.head? = some c → c.toNat ≠ 45) : rnB false l (decide (l.length ≤ 1)) = numB l := by
  cases hz : decide (l = [] ∨ (l.head?.map (·.toNat) = some 48 ∧ decide (l.length ≤ 1) = false)) with
  | true =>
    have hz := of_decide_eq_true hz
    rw [rnB, if_pos hz]
    refine (numB_none fun n hn e => ?_).symm
    have hnn : ¬ n < 0 := fun hneg => by
      unfold Lib.itoa at e
      rw [if_pos hneg] at e
      exact h 45 (by rw [e]; rfl) rfl
    unfold Lib.itoa at e
    rw [if_neg hnn] at e
    obtain ⟨h1, h2, c, l', h3, h4⟩ := dec_parts n.toNat
    rcases hz with h5 | ⟨h5, h6⟩
    · subst h5; rw [h3] at e; cases e
    · rw [e, h3] at h5
      have h0 := h4 (by simpa using h5)
      rw [h0, Lib.decDigits_one (by omega)] at e
      rw [e] at h6
      simp at h6
  | false =>
    have hz := of_decide_eq_false hz
    rw [rnB, if_neg hz]
    have hne : l ≠ [] := fun h => hz (.inl h)
    have h0 : ∀ c, l.head? = some c → c.toNat = 48 → l.length = 1 := fun c hc e => by
      have : ¬ decide (l.length ≤ 1) = false := fun hh => hz (.inr ⟨by rw [hc]; simpa using e, hh⟩)
      have hl : l.length ≤ 1 := by simpa using this
      cases l with
      | nil => exact absurd rfl hne
      | cons a b => simp at hl ⊢; exact hl
    cases e : rdg l 0 with
    | some v =>
      obtain ⟨h1, h2, h3⟩ := rdg_some l 0 v (by omega) e
      have hd := dec_of l h1 h0 hne
      rw [← h2] at hd
      by_cases hv : v = 9223372036854775808
      · simp only [Bool.false_eq_true, if_false, hv, if_true]
        refine (numB_none fun n hn e' => ?_).symm
        unfold Lib.itoa at e'
        unfold I64 at hn
        split at e'
        · next hneg => exact h 45 (by rw [e']; rfl) rfl
        · obtain ⟨g1, g2, _⟩ := dec_parts n.toNat
          rw [← e', ← h2] at g2
          omega
      · simp only [Bool.false_eq_true, if_false, hv]
        have : l = Lib.itoa (v : Int) := by rw [Lib.itoa_nonneg, hd]
        rw [this, numB_itoa (by unfold I64; omega)]
    | none =>
      refine (numB_none fun n hn e' => ?_).symm
      unfold Lib.itoa at e'
      unfold I64 at hn
      split at e'
      · next hneg => exact h 45 (by rw [e']; rfl) rfl
      · obtain ⟨h1, h2, c, l', h3, h4⟩ := dec_parts n.toNat
        rw [e', rdg_of _ 0 h1 (by rw [h2]; omega)] at e
        cases e
end Go.Proofs.YtboidkmnkicoeaaGreatDoor

/- Plain: pieces of a text; a line read word by word; a text read line by line; the text of a module. -/
namespace Go.Proofs.YtboidkmnkicoeaaGreatDoor
open Go.RowKit

abbrev tb (l : Bt) : ByteArray := ⟨l.toArray⟩
theorem tb_size (l : Bt) : (tb l).size = l.length := by simp [ByteArray.size]
theorem tb_app (l t : Bt) : tb l ++ tb t = tb (l ++ t) := by
  apply ByteArray.ext; simp
theorem tb_of (s : ByteArray) : tb s.data.toList = s := by apply ByteArray.ext; simp
theorem tb_list (l : Bt) : (tb l).data.toList = l := rfl
theorem tb_inj {l t : Bt} (h : tb l = tb t) : l = t := by
  have := congrArg (fun s : ByteArray => s.data.toList) h
  simpa using this

/-- The pieces between the signs c. -/
def spl (c : UInt8) : Bt → List Bt
  | [] => [[]]
  | x :: r => if x = c then [] :: spl c r else match spl c r with | [] => [[x]] | w :: t => (x :: w) :: t
/-- They are put together again. -/
def jn (c : UInt8) : List Bt → Bt
  | [] => []
  | [w] => w
  | w :: t => w ++ c :: jn c t
theorem spl_ne (c : UInt8) : ∀ l, spl c l ≠ []
  | [] => by simp [spl]
  | x :: r => by
    rw [spl]
    split
    · simp
    · split <;> simp
theorem jn_cons (c : UInt8) (w : Bt) {t : List Bt} (h : t ≠ []) : jn c (w :: t) = w ++ c :: jn c t := by
  cases t with
  | nil => exact absurd rfl h
  | cons a b => rfl
theorem spl_no {c : UInt8} : ∀ {l : Bt}, c ∉ l → spl c l = [l]
  | [], _ => rfl
  | x :: r, h => by
    have h1 : x ≠ c := fun e => h (by simp [e])
    rw [spl, if_neg h1, spl_no (fun e => h (by simp [e]))]
theorem spl_cut {c : UInt8} (r : Bt) : ∀ {l : Bt}, c ∉ l → spl c (l ++ c :: r) = l :: spl c r
  | [], _ => by simp [spl]
  | x :: l, h => by
    have h1 : x ≠ c := fun e => h (by simp [e])
    rw [List.cons_append, spl, if_neg h1, spl_cut r (fun e => h (by simp [e]))]
theorem spl_cases (c : UInt8) : ∀ l : Bt, c ∉ l ∨ ∃ a r, c ∉ a ∧ l = a ++ c :: r
  | [] => .inl (by simp)
  | x :: r => by
    by_cases h : x = c
    · subst h; exact .inr ⟨[], r, by simp, rfl⟩
    · rcases spl_cases c r with h1 | ⟨a, t, h1, rfl⟩
      · refine .inl ?_
        simp only [List.mem_cons, not_or]
        exact ⟨fun e => h e.symm, h1⟩
      · refine .inr ⟨x :: a, t, ?_, rfl⟩
        simp only [List.mem_cons, not_or]
        exact ⟨fun e => h e.symm, h1⟩
theorem spl_rec {P : Bt → Prop} (c : UInt8) (h0 : ∀ l, c ∉ l → P l) (h1 : ∀ a r, c ∉ a → P r → P (a ++ c :: r)) (l : Bt) : P l := by
  induction hn : l.length using Nat.strongRecOn generalizing l with
  | _ n ih =>
    rcases spl_cases c l with h | ⟨a, r, h, rfl⟩
    · exact h0 l h
    · exact h1 a r h (ih r.length (by simp at hn; omega) r rfl)
theorem jn_spl (c : UInt8) (l : Bt) : jn c (spl c l) = l := by
  refine spl_rec (P := fun l => jn c (spl c l) = l) c (fun l h => ?_) (fun a r h ih => ?_) l
  · rw [spl_no h]; rfl
  · rw [spl_cut r h, jn_cons c a (spl_ne c r), ih]
theorem spl_mem {c : UInt8} (l : Bt) : ∀ w ∈ spl c l, c ∉ w := by
  refine spl_rec (P := fun l => ∀ w ∈ spl c l, c ∉ w) c (fun l h => ?_) (fun a r h ih => ?_) l
  · rw [spl_no h]; intro w hw; simp at hw; subst hw; exact h
  · rw [spl_cut r h]; intro w hw
    rcases List.mem_cons.1 hw with rfl | hw
    · exact h
    · exact ih w hw
theorem spl_sub {c : UInt8} (l : Bt) : ∀ w ∈ spl c l, ∀ x ∈ w, x ∈ l := by
  refine spl_rec (P := fun l => ∀ w ∈ spl c l, ∀ x ∈ w, x ∈ l) c (fun l h => ?_) (fun a r h ih => ?_) l
  · rw [spl_no h]; intro w hw; simp at hw; subst hw; exact fun x hx => hx
  · rw [spl_cut r h]; intro w hw x hx
    rcases List.mem_cons.1 hw with rfl | hw
    · simp [hx]
    · simp [ih w hw x hx]

/-- Words with their places. -/
def plc : Nat → List Bt → List (Nat × Bt)
  | _, [] => []
  | p, w :: t => (p, w) :: plc (p + w.length + 1) t
theorem plc_len : ∀ (p : Nat) (l : List Bt), (plc p l).length = l.length
  | _, [] => rfl
  | p, w :: t => by rw [plc, List.length_cons, plc_len, List.length_cons]
theorem plc_words : ∀ (p : Nat) (l : List Bt), (plc p l).map (·.2) = l
  | _, [] => rfl
  | p, w :: t => by rw [plc, List.map_cons, plc_words]

def widenB : Bt := [119, 105, 100, 101, 110]
def funcB : Bt := [102, 117, 110, 99]
/-- Which fields an operation has. -/
def hasL (op : Int) : List Nat := (if bt (rwOf op).regs 0 then [0] else []) ++ (if bt (rwOf op).regs 1 then [1] else []) ++ (if bt (rwOf op).regs 2 then [2] else []) ++ (if (rwOf op).n != 0 then [3] else [])
def getF (x : Is) : Nat → Int
  | 0 => x.a
  | 1 => x.b
  | 2 => x.c
  | _ => x.n
def setF (x : Is) (v : Int) : Nat → Is
  | 0 => { x with a := v }
  | 1 => { x with b := v }
  | 2 => { x with c := v }
  | _ => { x with n := v }
def insL (x : Is) : List Int := (hasL x.op).map (getF x)
def setL : List Nat → List Int → Is → Is
  | k :: r, v :: t, x => setL r t (setF x v k)
  | _, _, x => x
def insF (op : Int) (ns : List Int) : Is := setL (hasL op) ns ⟨op, 0, 0, 0, 0⟩
/-- The operation of a word, from one on. -/
def opN (w : Bt) : Nat → Nat → Option Nat
  | 0, _ => none
  | k + 1, j => if (rwN j).word.data.toList = w then some j else opN w k (j + 1)
def opOf (w : Bt) : Option Nat := opN w 20 0

/-- A line as far as it has been read. -/
structure Rs where
  words : Nat
  kind : Int
  name : Bt
  ns : List Int
def rs0 : Rs := ⟨0, 0, [], []⟩
/-- What the first word says. -/
def bgZ (n : Nat) (w : Bt) : Int × Int :=
  if n = 1 ∧ w = widenB then (0, -1) else if n ≠ 1 ∧ w = funcB then (0, -2) else if n ≤ 2 then (5, 0) else match opOf w with | some k => (0, k) | none => (60, 0)
/-- One word more: the line, or what is wrong. -/
def tkZ (n : Nat) (r : Rs) (p : Nat) (w : Bt) : Except (Int × Nat) Rs :=
  if r.words = 0 then (if (bgZ n w).1 = 0 then .ok ⟨1, (bgZ n w).2, r.name, r.ns⟩ else .error ((bgZ n w).1, 0))
  else if r.words = 1 ∧ r.kind = -2 then .ok ⟨2, r.kind, w, r.ns⟩
  else if 0 ≤ r.kind ∧ (hasL r.kind).length < r.words then .error (7, p - 1)
  else match numB w with
    | none => .error (11, p)
    | some v => .ok ⟨r.words + 1, r.kind, r.name, r.ns ++ [v]⟩
def rowZ (n : Nat) : Rs → List (Nat × Bt) → Except (Int × Nat) Rs
  | r, [] => .ok r
  | r, (p, w) :: t => match tkZ n r p w with | .error e => .error e | .ok r' => rowZ n r' t
def whole (r : Rs) : Bool := if r.kind = -1 then true else if r.kind = -2 then decide (4 ≤ r.words ∧ r.words % 2 = 0) else decide (r.words = 1 + (hasL r.kind).length)
def lineZ (n : Nat) (l : Bt) (ended : Bool) : Except (Int × Nat) Rs :=
  match rowZ n rs0 (plc 0 (spl 32 l)) with
  | .error e => .error e
  | .ok r => if ended && whole r then .ok r else .error (6, l.length)

/-- All that has been read. -/
structure Dr where
  ths : List Int
  hs : List Nat
  fs : List Fn
def dr0 : Dr := ⟨[], [], []⟩
def prs : List Int → List Sp
  | a :: b :: t => (a, b) :: prs t
  | _ => []
def hdF (r : Rs) : Fn := ⟨tb r.name, none, 0, prs (r.ns.drop 2), r.ns.getD 0 0, r.ns.getD 1 0, none, 0, []⟩
def moreI (x : Is) (f : Fn) : Fn := { f with code := f.code ++ [x] }
def addZ (d : Dr) (n : Nat) (r : Rs) : Dr :=
  if r.kind = -1 then { d with ths := r.ns } else if r.kind = -2 then { d with hs := d.hs ++ [n], fs := d.fs ++ [hdF r] } else { d with fs := d.fs.modify (d.fs.length - 1) (moreI (insF r.kind r.ns)) }
def goZ : List Bt → Nat → Dr → Except (Int × Nat × Nat) Dr
  | [], _, d => .ok d
  | [l], n, d => if n ≠ 1 ∧ l = [] then .ok d else match lineZ n l false with | .error e => .error (e.1, n, e.2) | .ok _ => .ok d
  | l :: t, n, d => match lineZ n l true with | .error e => .error (e.1, n, e.2) | .ok r => goZ t (n + 1) (addZ d n r)
def moD (d : Dr) : Mo := ⟨none, 0, d.ths, none, 0, d.fs⟩
/-- The line of a fault. -/
def fltN (d : Dr) (z : Int × Int × Int) : Int :=
  if z.1 = 66 ∨ d.ths.length > 16 then 1 else
  if z.1 = 3 ∨ z.1 = 8 ∨ z.1 = 9 ∨ z.1 = 40 ∨ z.1 = 95 ∨ z.1 = 96 ∨ z.1 = 97 then (d.hs.getD z.2.1.toNat 0 : Nat) else (d.hs.getD z.2.1.toNat 0 : Nat) + 1 + z.2.2
/-- What a text comes to. -/
structure Pz where
  d : Dr
  e : Int
  line : Int
  at_ : Int
def parZ (s : Bt) : Pz :=
  match goZ (spl 10 s) 1 dr0 with
  | .error (e, n, p) => ⟨dr0, e, n, p⟩
  | .ok d => if (mayZ (moD d)).1 = 0 then ⟨d, 0, 0, 0⟩ else ⟨dr0, (mayZ (moD d)).1, fltN d (mayZ (moD d)), 0⟩

/-- The text of a module. -/
def numT (n : Int) : Bt := 32 :: Lib.itoa n
def lineT (b : Bt) (ns : List Int) : Bt := b ++ ns.flatMap numT ++ [10]
def insT (x : Is) : Bt := lineT (rwOf x.op).word.data.toList (insL x)
def hdN (f : Fn) : List Int := f.regs :: f.words :: f.params.flatMap fun s => [s.1, s.2]
def fnT (f : Fn) : Bt := lineT (funcB ++ 32 :: f.name.data.toList) (hdN f) ++ f.code.flatMap insT
def moT (m : Mo) : Bt := lineT widenB m.ths ++ m.funcs.flatMap fnT
end Go.Proofs.YtboidkmnkicoeaaGreatDoor

/- Plain: the words of a line as they are met by its characters. -/
namespace Go.Proofs.YtboidkmnkicoeaaGreatDoor
open Go.RowKit

theorem decode_bytes (s : ByteArray) (pos : Nat) (h : pos < s.size) (ha : 128 ≤ (s[pos]'h).toNat) : ∀ k, k < (Utf8.decode s pos).2 → pos + k < s.size ∧ 128 ≤ (s.get! (pos + k)).toNat := by
  have h0 : pos + 0 < s.size ∧ 128 ≤ (s.get! (pos + 0)).toNat := ⟨h, by rw [get_at s pos h]; exact ha⟩
  have hn : ¬ (s.get! (pos + 0)).toNat < 128 := by omega
  have hc : ∀ k, (decide (pos + k < s.size) && (s.get! (pos + k)).toNat / 64 == 2) = true → pos + k < s.size ∧ 128 ≤ (s.get! (pos + k)).toNat := fun k hk => by
    simp only [Bool.and_eq_true, decide_eq_true_eq, beq_iff_eq] at hk
    exact ⟨hk.1, by omega⟩
  intro k hk
  simp only [Utf8.decode, hn, if_false] at hk
  split at hk
  · rename_i h1
    have q1 := hc 1 (by simp only [Bool.and_eq_true] at h1 ⊢; exact h1.2)
    split at hk
    · have : k = 0 ∨ k = 1 := by simp only at hk; omega
      rcases this with rfl | rfl
      · exact h0
      · exact q1
    · have : k = 0 := by simp only at hk; omega
      subst this; exact h0
  · split at hk
    · rename_i _ h1
      have q1 := hc 1 (by simp only [Bool.and_eq_true] at h1 ⊢; exact h1.1.2)
      have q2 := hc 2 (by simp only [Bool.and_eq_true] at h1 ⊢; exact h1.2)
      split at hk
      · have : k = 0 ∨ k = 1 ∨ k = 2 := by simp only at hk; omega
        rcases this with rfl | rfl | rfl
        · exact h0
        · exact q1
        · exact q2
      · have : k = 0 := by simp only at hk; omega
        subst this; exact h0
    · split at hk
      · rename_i _ _ h1
        have q1 := hc 1 (by simp only [Bool.and_eq_true] at h1 ⊢; exact h1.1.1.2)
        have q2 := hc 2 (by simp only [Bool.and_eq_true] at h1 ⊢; exact h1.1.2)
        have q3 := hc 3 (by simp only [Bool.and_eq_true] at h1 ⊢; exact h1.2)
        split at hk
        · have : k = 0 ∨ k = 1 ∨ k = 2 ∨ k = 3 := by simp only at hk; omega
          rcases this with rfl | rfl | rfl | rfl
          · exact h0
          · exact q1
          · exact q2
          · exact q3
        · have : k = 0 := by simp only at hk; omega
          subst this; exact h0
      · have : k = 0 := by simp only at hk; omega
        subst this; exact h0
theorem get_list (s : ByteArray) (k : Nat) (h : k < s.size) : s.data.toList[k]? = some (s[k]'h) := by
  rw [List.getElem?_eq_getElem (by rw [Array.length_toList]; exact h)]; rfl
theorem get_bang (s : ByteArray) (k : Nat) (h : k < s.size) : s.get! k = s[k]'h := get_at s k h
/-- No blank stands there. -/
def noB (l : Bt) (i j : Nat) : Prop := ∀ k, i ≤ k → k < j → l[k]? ≠ some 32
theorem noB_self (l : Bt) (i : Nat) : noB l i i := fun k h1 h2 => by omega
theorem noB_next {s : ByteArray} {i j : Nat} (h : noB s.data.toList i j) (hj : j < s.size) (hc : (Utf8.decode s j).1 ≠ 32) : noB s.data.toList i (j + (Utf8.decode s j).2) ∧ j + (Utf8.decode s j).2 ≤ s.size ∧ 1 ≤ (Utf8.decode s j).2 := by
  by_cases ha : (s[j]'hj).toNat < 128
  · rw [decode_ascii s j hj ha] at hc ⊢
    refine ⟨fun k h1 h2 => ?_, by simp only; omega, by simp only; omega⟩
    by_cases hk : k < j
    · exact h k h1 hk
    · have : k = j := by simp only at h2; omega
      subst this
      rw [get_list s k hj]
      intro e
      injection e with e
      simp only at hc
      rw [e] at hc
      exact hc rfl
  · have hb := decode_bytes s j hj (by omega)
    have hw := (decode_high s j hj (by omega)).2
    refine ⟨fun k h1 h2 => ?_, ?_, hw⟩
    · by_cases hk : k < j
      · exact h k h1 hk
      · obtain ⟨h3, h4⟩ := hb (k - j) (by omega)
        rw [show j + (k - j) = k by omega] at h3 h4
        rw [get_bang s k h3] at h4
        rw [get_list s k h3]
        intro e
        injection e with e
        rw [e] at h4
        revert h4; decide
    · have := (hb ((Utf8.decode s j).2 - 1) (by omega)).1
      omega
theorem blank_at {s : ByteArray} {j : Nat} (hj : j < s.size) (hc : (Utf8.decode s j).1 = 32) : s.data.toList[j]? = some 32 ∧ (Utf8.decode s j).2 = 1 := by
  by_cases ha : (s[j]'hj).toNat < 128
  · rw [decode_ascii s j hj ha] at hc ⊢
    refine ⟨?_, rfl⟩
    rw [get_list s j hj]
    congr 1
    exact UInt8.toNat_inj.1 hc
  · have := (decode_high s j hj (by omega)).1
    omega
/-- The word between. -/
def cutB (l : Bt) (i j : Nat) : Bt := (l.drop i).take (j - i)
theorem cutB_no {l : Bt} {i j : Nat} (h : noB l i j) : 32 ∉ cutB l i j := by
  intro hm
  obtain ⟨k, hk⟩ := List.getElem?_of_mem hm
  unfold cutB at hk
  rw [List.getElem?_take] at hk
  split at hk
  · rw [List.getElem?_drop] at hk
    exact h (i + k) (by omega) (by omega) hk
  · cases hk
theorem words_next {l : Bt} {i j : Nat} (h : noB l i j) (hij : i ≤ j) (hb : l[j]? = some 32) : plc i (spl 32 (l.drop i)) = (i, cutB l i j) :: plc (j + 1) (spl 32 (l.drop (j + 1))) := by
  have hj := (List.getElem?_eq_some_iff.1 hb).1
  have e : l.drop i = cutB l i j ++ 32 :: l.drop (j + 1) := by
    have h1 : l.drop i = (l.drop i).take (j - i) ++ (l.drop i).drop (j - i) := (List.take_append_drop _ _).symm
    rw [List.drop_drop, show i + (j - i) = j by omega, List.drop_eq_getElem_cons hj] at h1
    have h2 : l[j] = 32 := (List.getElem?_eq_some_iff.1 hb).2
    rw [h2] at h1
    exact h1
  have hl : (cutB l i j).length = j - i := by unfold cutB; rw [List.length_take, List.length_drop]; omega
  rw [e, spl_cut _ (cutB_no h), plc, hl, show i + (j - i) + 1 = j + 1 by omega]
theorem words_last {l : Bt} {i : Nat} (h : noB l i l.length) : plc i (spl 32 (l.drop i)) = [(i, l.drop i)] := by
  have : 32 ∉ l.drop i := by
    have := cutB_no h
    unfold cutB at this
    rwa [List.take_of_length_le (by rw [List.length_drop]; omega)] at this
  rw [spl_no this]; rfl
theorem ext_tb (s : ByteArray) (i j : Nat) : s.extract i j = tb (cutB s.data.toList i j) := by
  apply ByteArray.ext
  apply Array.ext'
  simp [cutB]
end Go.Proofs.YtboidkmnkicoeaaGreatDoor
