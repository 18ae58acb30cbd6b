/- Answers hang on addresses in nothing. -/
import Derived.Test.YtboidkmnkicoeaaGreatDoorJd
import Derived.Test.YtboidkmnkicoeaaGreatDoorKe
import Derived.Test.YtboidkmnkicoeaaGreatDoorKa
namespace Go.Proofs.YtboidkmnkicoeaaGreatDoor
open Go.RowKit Go.Sort

theorem fndN_er (s : ByteArray) : ∀ (l : List Fn) (i : Nat), fndN (l.map Fn.er) s i = fndN l s i
  | [], _ => rfl
  | f :: r, i => by rw [List.map_cons, fndN, fndN, fndN_er s r (i + 1)]; rfl
theorem headZ_er (m : Mo) (f : Fn) (k : Nat) : headZ m.er f.er k = headZ m f k := by
  unfold headZ
  simp only [Mo.er, fndN_er]
  rfl
theorem headsN_er (m : Mo) : ∀ (l : List Fn) (i : Nat), headsN m.er (l.map Fn.er) i = headsN m l i
  | [], _ => rfl
  | f :: r, i => by rw [List.map_cons, headsN, headsN, headZ_er, headsN_er m r (i + 1)]
theorem parN_er (m : Mo) (n : Int) : parN m.er n = parN m n := by
  unfold parN
  simp only [Mo.er, List.getElem?_map]
  cases m.funcs[n.toNat]? <;> rfl
theorem insZ_er (m : Mo) (f : Fn) (x : Is) : insZ m.er f.er x = insZ m f x := by
  have h : numZ m.er f.er x = numZ m f x := by
    unfold numZ
    rw [parN_er]
    simp only [Mo.er, List.length_map]
    rfl
  unfold insZ
  rw [h]
  rfl
theorem codeN_er (m : Mo) (f : Fn) : ∀ (l : List Is) (i : Nat), codeN m.er f.er l i = codeN m f l i
  | [], _ => rfl
  | x :: r, i => by rw [codeN, codeN, insZ_er, codeN_er m f r (i + 1)]
theorem codeZ_er (m : Mo) (f : Fn) : codeZ m.er f.er = codeZ m f := by
  unfold codeZ
  rw [codeN_er]
  rfl
theorem codesN_er (m : Mo) : ∀ (l : List Fn) (i : Nat), codesN m.er (l.map Fn.er) i = codesN m l i
  | [], _ => rfl
  | f :: r, i => by rw [List.map_cons, codesN, codesN, codeZ_er, codesN_er m r (i + 1)]
theorem mayZ_er (m : Mo) : mayZ m.er = mayZ m := by
  have h1 : wholeZ m.er = wholeZ m := by unfold wholeZ; simp only [Mo.er, List.length_map]
  have h2 : headsN m.er m.er.funcs 0 = headsN m m.funcs 0 := headsN_er m m.funcs 0
  have h3 : codesN m.er m.er.funcs 0 = codesN m m.funcs 0 := codesN_er m m.funcs 0
  unfold mayZ
  rw [h1, h2, h3]
theorem mayZ_same {p q : Mo} (h : p.er = q.er) : mayZ p = mayZ q := by rw [← mayZ_er p, h, mayZ_er]

theorem samI_refl : ∀ l, samI l l = true
  | [] => rfl
  | x :: l => by rw [samI, samI_refl l]; simp
theorem samPs_refl : ∀ l, samPs l l = true
  | [] => rfl
  | x :: l => by rw [samPs, samPs_refl l]; simp [samP]
theorem samXs_refl : ∀ l, samXs l l = true
  | [] => rfl
  | x :: l => by rw [samXs, samXs_refl l]; simp [samX]
theorem samF_refl (f : Fn) : samF f f = true := by simp [samF, samPs_refl, samXs_refl]
theorem samFs_er : ∀ (l t : List Fn), samFs (l.map Fn.er) (t.map Fn.er) = samFs l t
  | [], [] => rfl
  | [], _ :: _ => rfl
  | _ :: _, [] => rfl
  | x :: l, y :: t => by rw [List.map_cons, List.map_cons, samFs, samFs, samFs_er l t]; rfl
theorem samFs_refl : ∀ l, samFs l l = true
  | [] => rfl
  | x :: l => by rw [samFs, samFs_refl l, samF_refl]; rfl
theorem samM_er (p q : Mo) : samM p.er q.er = samM p q := by unfold samM; simp only [Mo.er, samFs_er]
theorem samM_same {p q : Mo} (h : p.er = q.er) : samM p q = true := by
  rw [← samM_er, h]; simp [samM, samI_refl, samFs_refl]
theorem samI_comm : ∀ l t, samI l t = samI t l
  | [], [] => rfl
  | [], _ :: _ => rfl
  | _ :: _, [] => rfl
  | x :: l, y :: t => by rw [samI, samI, samI_comm l t, show (x == y) = (y == x) by rw [Bool.eq_iff_iff, beq_iff_eq, beq_iff_eq]; exact eq_comm]
theorem beq_comm' (a b : Int) : (a == b) = (b == a) := by rw [Bool.eq_iff_iff, beq_iff_eq, beq_iff_eq]; exact eq_comm
theorem samPs_comm : ∀ l t, samPs l t = samPs t l
  | [], [] => rfl
  | [], _ :: _ => rfl
  | _ :: _, [] => rfl
  | x :: l, y :: t => by rw [samPs, samPs, samPs_comm l t, samP, samP, beq_comm' x.1, beq_comm' x.2]
theorem samXs_comm : ∀ l t, samXs l t = samXs t l
  | [], [] => rfl
  | [], _ :: _ => rfl
  | _ :: _, [] => rfl
  | x :: l, y :: t => by rw [samXs, samXs, samXs_comm l t, samX, samX, beq_comm' x.op, beq_comm' x.a, beq_comm' x.b, beq_comm' x.c, beq_comm' x.n]
theorem samF_comm (x y : Fn) : samF x y = samF y x := by
  rw [samF, samF, samPs_comm, samXs_comm, beq_comm' x.regs, beq_comm' x.words, show (x.name.toList == y.name.toList) = (y.name.toList == x.name.toList) by rw [Bool.eq_iff_iff, beq_iff_eq, beq_iff_eq]; exact eq_comm]
theorem samFs_comm : ∀ l t, samFs l t = samFs t l
  | [], [] => rfl
  | [], _ :: _ => rfl
  | _ :: _, [] => rfl
  | x :: l, y :: t => by rw [samFs, samFs, samFs_comm l t, samF_comm]
theorem samM_comm (p q : Mo) : samM p q = samM q p := by rw [samM, samM, samI_comm, samFs_comm]
end Go.Proofs.YtboidkmnkicoeaaGreatDoor

/- What a module that May takes keeps: plain. -/
namespace Go.Proofs.YtboidkmnkicoeaaGreatDoor
open Go.RowKit Go.Sort

theorem wr_in (n : Int) (h : -9223372036854775808 ≤ n ∧ n ≤ 9223372036854775807) : wrap64 n = n := by unfold wrap64; omega
theorem codes_ok {m : Mo} : ∀ (l : List Fn) (i : Nat), (codesN m l i).1 = 0 → ∀ (j : Nat) (f : Fn), l[j]? = some f → (codeZ m f).1 = 0
  | [], _, _, _, _, h => by simp at h
  | g :: r, i, h, j, f, hf => by
    rw [codesN] at h
    split at h
    · rename_i hne; exact absurd h hne
    · rename_i he
      cases j with
      | zero => simp at hf; subst hf; simpa using he
      | succ j => exact codes_ok r (i + 1) h j f (by simpa using hf)
theorem code_ok {m : Mo} {f : Fn} : ∀ (l : List Is) (i : Nat), (codeN m f l i).1 = 0 → ∀ (j : Nat) (x : Is), l[j]? = some x → insZ m f x = 0
  | [], _, _, _, _, h => by simp at h
  | g :: r, i, h, j, x, hf => by
    rw [codeN] at h
    split at h
    · rename_i hne; exact absurd h hne
    · rename_i he
      cases j with
      | zero => simp at hf; subst hf; simpa using he
      | succ j => exact code_ok r (i + 1) h j x (by simpa using hf)
theorem fndN_le : ∀ (l : List Fn) (i j : Nat) (f : Fn), l[j]? = some f → fndN l f.name i ≤ ((i + j : Nat) : Int) ∧ (i : Int) ≤ fndN l f.name i
  | [], _, _, _, h => by simp at h
  | g :: r, i, j, f, h => by
    rw [fndN]
    split
    · exact ⟨by omega, by omega⟩
    · rename_i hne
      cases j with
      | zero => simp at h; subst h; simp at hne
      | succ j =>
        have := fndN_le r (i + 1) j f (by simpa using h)
        exact ⟨by omega, by omega⟩
theorem regZ_ok {has : Bool} {r regs : Int} (h : regZ has r regs = 0) (hh : has = true) : 0 ≤ r ∧ r < regs := by
  subst hh
  unfold regZ at h
  simp only [if_true] at h
  split at h
  · simp at h
  · omega
theorem insZ_parts {m : Mo} {f : Fn} {x : Is} (h : insZ m f x = 0) : knB x.op = true ∧ regZ (bt (rwOf x.op).regs 0) x.a f.regs = 0 ∧ regZ (bt (rwOf x.op).regs 1) x.b f.regs = 0 ∧ regZ (bt (rwOf x.op).regs 2) x.c f.regs = 0 ∧ numZ m f x = 0 := by
  unfold insZ at h
  split at h
  · simp at h
  · split at h
    · rename_i h1; exact absurd h h1
    · split at h
      · rename_i h1; exact absurd h h1
      · split at h
        · rename_i h1; exact absurd h h1
        · rename_i k0 k1 k2 k3
          exact ⟨by simpa using k0, by simpa using k1, by simpa using k2, by simpa using k3, h⟩
/-- Of one bit: what is read is a register, what is written is one. -/
theorem bits_of {op : Int} (h0 : 0 ≤ op) (h1 : op ≤ 19) : (bt (rwOf op).reads 0 = true → bt (rwOf op).regs 0 = true) ∧ (bt (rwOf op).reads 1 = true → bt (rwOf op).regs 1 = true) ∧ (bt (rwOf op).reads 2 = true → bt (rwOf op).regs 2 = true) ∧ ((rwOf op).writes = true → bt (rwOf op).regs 0 = true) ∧ (14 ≤ op → op ≤ 18 → (rwOf op).n = 3) ∧ (op = 19 → (rwOf op).n = 4 ∧ bt (rwOf op).regs 1 = true) := by
  revert op
  intro op h0 h1
  refine op_cases (P := fun op => (bt (rwOf op).reads 0 = true → bt (rwOf op).regs 0 = true) ∧ (bt (rwOf op).reads 1 = true → bt (rwOf op).regs 1 = true) ∧ (bt (rwOf op).reads 2 = true → bt (rwOf op).regs 2 = true) ∧ ((rwOf op).writes = true → bt (rwOf op).regs 0 = true) ∧ (14 ≤ op → op ≤ 18 → (rwOf op).n = 3) ∧ (op = 19 → (rwOf op).n = 4 ∧ bt (rwOf op).regs 1 = true)) h0 h1 ?_ ?_ ?_ ?_ ?_ ?_ ?_ ?_ ?_ ?_ ?_ ?_ ?_ ?_ ?_ ?_ ?_ ?_ ?_ ?_ <;> decide
/-- What holds of an instruction. -/
structure GoodI (m : Mo) (f : Fn) (x : Is) (last : Bool) : Prop where
  kn : knB x.op = true
  call : x.op = 19 → 0 ≤ x.n ∧ x.n < m.funcs.length
  rd : ∀ r ∈ rdL x (if x.op = 19 then parN m x.n else 0), 0 ≤ r ∧ r < f.regs
  wr : wrN x = -1 ∨ 0 ≤ wrN x ∧ wrN x < f.regs
  jump : 14 ≤ x.op → x.op ≤ 18 → 0 ≤ x.n ∧ x.n < f.code.length
  end' : last = true → x.op = 0 ∨ x.op = 14 ∨ x.op = 18
theorem parN_le {m : Mo} (hp : ∀ (j : Nat) (g : Fn), m.funcs[j]? = some g → g.params.length ≤ 8) (n : Int) : 0 ≤ parN m n ∧ parN m n ≤ 8 := by
  unfold parN
  split
  · rename_i g hg; have := hp _ _ hg; omega
  · omega
theorem good_ins {m : Mo} {f : Fn} {x : Is} (hp : ∀ (j : Nat) (g : Fn), m.funcs[j]? = some g → g.params.length ≤ 8) (hr : f.regs ≤ 64) (h : insZ m f x = 0) {last : Bool} (hl : last = true → x.op = 0 ∨ x.op = 14 ∨ x.op = 18) : GoodI m f x last := by
  obtain ⟨h0, h1, h2, h3, h4⟩ := insZ_parts h
  have hk : 0 ≤ x.op ∧ x.op ≤ 19 := by unfold knB at h0; simpa using h0
  obtain ⟨b0, b1, b2, b3, b4, b5⟩ := bits_of hk.1 hk.2
  refine ⟨h0, fun e => ?_, ?_, ?_, fun e1 e2 => ?_, hl⟩
  · unfold numZ at h4
    rw [(b5 e).1] at h4
    simp only [Int.reduceEq, if_false, if_true] at h4
    split at h4
    · simp at h4
    · omega
  · intro r hm
    unfold rdL at hm
    split at hm
    · rename_i e
      unfold numZ at h4
      rw [(b5 e).1] at h4
      simp only [Int.reduceEq, if_false, if_true] at h4
      obtain ⟨q0, q1⟩ := parN_le hp x.n
      obtain ⟨r0, r1⟩ := regZ_ok h2 (b5 e).2
      rw [wr_in _ (by omega)] at h4
      split at h4
      · simp at h4
      · rename_i hn
        unfold argL at hm
        obtain ⟨i, hi, rfl⟩ := List.mem_map.1 hm
        have := List.mem_range.1 hi
        rw [wr_in _ (by omega)]
        omega
    · unfold fldL at hm
      simp only [List.mem_append] at hm
      rcases hm with (hm | hm) | hm
      · split at hm
        · rename_i hb; simp at hm; subst hm; exact regZ_ok h1 (b0 hb)
        · simp at hm
      · split at hm
        · rename_i hb; simp at hm; subst hm; exact regZ_ok h2 (b1 hb)
        · simp at hm
      · split at hm
        · rename_i hb; simp at hm; subst hm; exact regZ_ok h3 (b2 hb)
        · simp at hm
  · unfold wrN
    split
    · rename_i hb; exact .inr (regZ_ok h1 (b3 hb))
    · exact .inl rfl
  · unfold numZ at h4
    rw [b4 e1 e2] at h4
    simp only [Int.reduceEq, if_false, if_true] at h4
    split at h4
    · simp at h4
    · omega
/-- The six ways in which an instruction may stand at its place. -/
structure EndF (op n : Int) (k len : Nat) (j1 j2 l e0 e14 e18 : Bool) : Prop where
  hj1 : decide (14 ≤ op) = j1
  hj2 : decide (op ≤ 18) = j2
  hn1 : j1 = true → j2 = true → decide (n < 0) = false
  hn2 : j1 = true → j2 = true → decide ((len : Int) ≤ n) = false
  hl : ((k : Int) + 1 == (len : Int)) = l
  hl2 : decide ((k : Int) + 1 = (len : Int)) = l
  h0 : l = true → (op != 0) = e0
  h14 : l = true → e0 = true → (op != 14) = e14
  h18 : l = true → e0 = true → e14 = true → (op != 18) = e18
theorem ends_of {op n : Int} {k len : Nat} (hj : 14 ≤ op → op ≤ 18 → 0 ≤ n ∧ n < len) (he : decide (k + 1 = len) = true → op = 0 ∨ op = 14 ∨ op = 18) :
    EndF op n k len true true false true true true ∨ EndF op n k len true true true true false true ∨ EndF op n k len true true true true true false ∨ EndF op n k len false true false true true true ∨ EndF op n k len false true true false true true ∨ EndF op n k len true false false true true true := by
  have hb : ∀ {l : Bool}, decide (k + 1 = len) = l → ((k : Int) + 1 == (len : Int)) = l ∧ decide ((k : Int) + 1 = (len : Int)) = l := fun {l} h => by
    subst h
    constructor
    · rw [Bool.eq_iff_iff, beq_iff_eq, decide_eq_true_eq]; omega
    · rw [Bool.eq_iff_iff, decide_eq_true_eq, decide_eq_true_eq]; omega
  cases hl : decide (k + 1 = len) with
  | false =>
    obtain ⟨l1, l2⟩ := hb hl
    by_cases h1 : 14 ≤ op
    · by_cases h2 : op ≤ 18
      · have := hj h1 h2
        exact .inl ⟨by simp [h1], by simp [h2], fun _ _ => decide_eq_false (by omega), fun _ _ => decide_eq_false (by omega), l1, l2, fun h => by simp at h, fun h => by simp at h, fun h => by simp at h⟩
      · exact .inr (.inr (.inr (.inr (.inr ⟨by simp [h1], by simp [h2], fun _ h => by simp at h, fun _ h => by simp at h, l1, l2, fun h => by simp at h, fun h => by simp at h, fun h => by simp at h⟩))))
    · exact .inr (.inr (.inr (.inl ⟨by simp [h1], by simp; omega, fun h => by simp at h, fun h => by simp at h, l1, l2, fun h => by simp at h, fun h => by simp at h, fun h => by simp at h⟩)))
  | true =>
    obtain ⟨l1, l2⟩ := hb hl
    rcases he hl with rfl | rfl | rfl
    · exact .inr (.inr (.inr (.inr (.inl ⟨rfl, rfl, fun h => by simp at h, fun h => by simp at h, l1, l2, fun _ => rfl, fun _ h => by simp at h, fun _ h => by simp at h⟩))))
    · have := hj (by omega) (by omega)
      exact .inr (.inl ⟨rfl, rfl, fun _ _ => decide_eq_false (by omega), fun _ _ => decide_eq_false (by omega), l1, l2, fun _ => rfl, fun _ _ => rfl, fun _ _ h => by simp at h⟩)
    · have := hj (by omega) (by omega)
      exact .inr (.inr (.inl ⟨rfl, rfl, fun _ _ => decide_eq_false (by omega), fun _ _ => decide_eq_false (by omega), l1, l2, fun _ => rfl, fun _ _ => rfl, fun _ _ _ => rfl⟩))
/-- What holds of a module that may be. -/
theorem good_of {m : Mo} (h : mayZ m = (0, 0, 0)) (j : Nat) (f : Fn) (hf : m.funcs[j]? = some f) : fndN m.funcs f.name 0 = j ∧ (f.params.length : Int) ≤ f.regs ∧ f.code.length ≤ 1024 ∧ ∀ (k : Nat) (x : Is), f.code[k]? = some x → GoodI m f x (decide (k + 1 = f.code.length)) := by
  have hw : (wholeZ m).1 = 0 := by
    by_cases hw : (wholeZ m).1 = 0
    · exact hw
    · rw [mayZ_whole hw] at h; rw [h]
  have hh : (headsN m m.funcs 0).1 = 0 := by
    by_cases hh : (headsN m m.funcs 0).1 = 0
    · exact hh
    · rw [mayZ_head hw hh] at h; rw [h]
  have hc : (codesN m m.funcs 0).1 = 0 := by rw [mayZ_code hw hh] at h; rw [h]
  have hp : ∀ (j : Nat) (g : Fn), m.funcs[j]? = some g → g.params.length ≤ 8 := fun j g hg => (head_rest (heads_ok m.funcs 0 hh j g hg)).2.2.1
  have hd := head_rest (heads_ok m.funcs 0 hh j f hf)
  have hcz := codes_ok m.funcs 0 hc j f hf
  have hn := fndN_le m.funcs 0 j f hf
  have h1 : (codeN m f f.code 0).1 = 0 := by
    by_cases h1 : (codeN m f f.code 0).1 = 0
    · exact h1
    · unfold codeZ at hcz; rw [if_pos h1] at hcz; exact hcz
  have h2 : lastOp f = 0 ∨ lastOp f = 14 ∨ lastOp f = 18 := by
    unfold codeZ at hcz
    rw [if_neg (by simp [h1])] at hcz
    by_cases h2 : lastOp f = 0 ∨ lastOp f = 14 ∨ lastOp f = 18
    · exact h2
    · rw [if_neg h2] at hcz; simp at hcz
  refine ⟨by omega, by omega, by omega, fun k x hx => good_ins hp hd.2.2.2.2.2.1 (code_ok f.code 0 h1 k x hx) fun hl => ?_⟩
  have hl := of_decide_eq_true hl
  unfold lastOp at h2
  rw [show f.code.length - 1 = k by omega, hx] at h2
  exact h2

end Go.Proofs.YtboidkmnkicoeaaGreatDoor
