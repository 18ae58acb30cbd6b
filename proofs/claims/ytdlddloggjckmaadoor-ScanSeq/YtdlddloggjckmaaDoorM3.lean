/- Plain facts on numbers as digits, and what a token at the beginning of a text is: no program stands in it. -/
import Derived.Test.YtdlddloggjckmaaDoorM2
import Derived.Lib.ParseIntB
namespace Go.Proofs.YtdlddloggjckmaaDoor

/-- The number that digits spell, behind what was spelt. -/
def natA (acc : Nat) (l : List UInt8) : Nat := l.foldl (fun a c => a * 10 + (c.toNat - 48)) acc

theorem natA_nil (acc : Nat) : natA acc [] = acc := rfl
theorem natA_cons (acc : Nat) (c : UInt8) (r : List UInt8) : natA acc (c :: r) = natA (acc * 10 + (c.toNat - 48)) r := by unfold natA; rw [List.foldl_cons]
theorem natA_ge (l : List UInt8) : ∀ acc : Nat, acc ≤ natA acc l := by
  induction l with
  | nil => intro acc; rw [natA_nil]; exact Nat.le_refl _
  | cons c r ih => intro acc; have := ih (acc * 10 + (c.toNat - 48)); rw [natA_cons]; omega

theorem natA_append (l r : List UInt8) (acc : Nat) : natA acc (l ++ r) = natA (natA acc l) r := by
  unfold natA; rw [List.foldl_append]

theorem isDig_iff (c : UInt8) : isDig c = true ↔ 48 ≤ c.toNat ∧ c.toNat ≤ 57 := by
  unfold isDig digB; simp; omega

theorem parseUintM_dig (M : Nat) (hM : M < 18446744073709551616) : ∀ (l : List UInt8) (acc : Nat), (∀ c ∈ l, isDig c = true) → acc ≤ M →
    Lib.parseUintM M acc l = if natA acc l ≤ M then .ok (natA acc l) else .range
  | [], acc, _, h => by rw [Lib.parseUintM, natA_nil, if_pos h]
  | c :: r, acc, hd, h => by
    have hc := (isDig_iff c).1 (hd c (by simp))
    have hg := natA_ge r (acc * 10 + (c.toNat - 48))
    rw [Lib.parseUintM, natA_cons, if_pos hc]
    split
    · rw [if_neg (by omega)]
    · split
      · rw [if_neg (by omega)]
      · exact parseUintM_dig M hM r _ (fun c hc => hd c (by simp [hc])) (by omega)

def maxI : Nat := 9223372036854775807

/-- The number of a row of digits, if it may be. -/
def numV (t : List UInt8) : Option Int :=
  if 1 < t.length ∧ t.head? = some 48 then none else if natA 0 t ≤ maxI then some (natA 0 t : Nat) else none

theorem parseIntB_dig (t : List UInt8) (h0 : t ≠ []) (hd : ∀ c ∈ t, isDig c = true) :
    Lib.parseIntB 64 t = if natA 0 t ≤ maxI then .ok (natA 0 t : Nat) else .range := by
  match t, h0, hd with
  | c :: r, _, hd =>
    have hc := (isDig_iff c).1 (hd c (by simp))
    have hu : Lib.parseUintB 64 (c :: r) = if natA 0 (c :: r) ≤ 2 ^ 64 - 1 then .ok (natA 0 (c :: r)) else .range := by
      rw [Lib.parseUintB, if_neg (by simp)]; exact parseUintM_dig _ (by omega) _ _ hd (Nat.zero_le _)
    have hn2 : ¬ c.toNat = 45 := by omega
    have hn1 : ¬ c.toNat = 43 := by omega
    have k1 : ∀ u, Lib.parseUintB 64 (c :: r) = .ok u → Lib.parseIntB 64 (c :: r) = if 2 ^ 63 ≤ u then .range else .ok (u : Int) := by
      intro u hu
      unfold Lib.parseIntB
      simp only [hn1, hn2, if_false, not_false_eq_true, true_and, false_and, or_self, hu]
    have k2 : Lib.parseUintB 64 (c :: r) = .range → Lib.parseIntB 64 (c :: r) = .range := by
      intro hu
      unfold Lib.parseIntB
      simp only [hn1, hn2, if_false, or_self, hu]
    unfold maxI
    by_cases h : natA 0 (c :: r) ≤ 2 ^ 64 - 1
    · rw [if_pos h] at hu
      rw [k1 _ hu]
      by_cases h2 : natA 0 (c :: r) ≤ 9223372036854775807
      · rw [if_pos h2, if_neg (by omega)]
      · rw [if_neg h2, if_pos (by omega)]
    · rw [if_neg h] at hu
      rw [k2 hu, if_neg (by omega)]

theorem mem_rowLen (p : UInt8 → Bool) (l : List UInt8) : ∀ c ∈ l.take (rowLen p l), p c = true := by
  have : l.take (rowLen p l) = l.takeWhile p := by
    unfold rowLen; exact (List.prefix_iff_eq_take.1 (List.takeWhile_prefix p)).symm
  rw [this]; intro c hc; exact List.all_eq_true.1 (List.all_takeWhile (p := p) (l := l)) c hc

theorem rowLen_pos (p : UInt8 → Bool) {l : List UInt8} (h : 0 < l.length) (hp : p l[0] = true) : 0 < rowLen p l := by
  cases l with
  | nil => simp at h
  | cons c r => rw [rowLen_cons, if_pos (by simpa using hp)]; omega

/-- What stands at the beginning of a text: an error's number, or a token's kind, its length and its number. -/
structure Tk where
  kind : Int
  len : Nat
  n : Int

def letR (l : List UInt8) : Sum Int Tk := if 16 < rowLen isLod l then .inl 4 else .inr ⟨if wordB (l.take (rowLen isLod l)) then 3 else 1, rowLen isLod l, 0⟩
def digR (l : List UInt8) : Sum Int Tk := match numV (l.take (rowLen isDig l)) with | none => .inl 11 | some v => .inr ⟨2, rowLen isDig l, v⟩
def sgnR (l : List UInt8) : Sum Int Tk := if signLen l = 0 then .inl 10 else .inr ⟨4, signLen l, 0⟩
def takeR (l : List UInt8) : Sum Int Tk := match l with | [] => .inl 10 | c :: _ => if isLet c then letR l else if isDig c then digR l else sgnR l

def tkK : Sum Int Tk → Int | .inl _ => 0 | .inr t => t.kind
def tkN : Sum Int Tk → Int | .inl _ => 0 | .inr t => t.n
def tkE : Sum Int Tk → Int | .inl e => e | .inr _ => 0
def tkL : Sum Int Tk → Nat | .inl _ => 0 | .inr t => t.len
def tkS (s : ByteArray) (r : Sum Int Tk) : ByteArray := s.extract 0 (tkL r)

theorem takeR_let {l : List UInt8} (h : 0 < l.length) (h1 : isLet l[0] = true) : takeR l = letR l := by
  cases l with
  | nil => simp at h
  | cons c r => simp at h1; simp [takeR, h1]
theorem takeR_dig {l : List UInt8} (h : 0 < l.length) (h1 : isLet l[0] = false) (h2 : isDig l[0] = true) : takeR l = digR l := by
  cases l with
  | nil => simp at h
  | cons c r => simp at h1 h2; simp [takeR, h1, h2]
theorem takeR_sgn {l : List UInt8} (h : 0 < l.length) (h1 : isLet l[0] = false) (h2 : isDig l[0] = false) : takeR l = sgnR l := by
  cases l with
  | nil => simp at h
  | cons c r => simp at h1 h2; simp [takeR, h1, h2]

end Go.Proofs.YtdlddloggjckmaaDoor
