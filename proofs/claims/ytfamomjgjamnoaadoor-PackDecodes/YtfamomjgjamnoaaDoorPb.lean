/- Plain: what is read of bytes. -/
import Derived.Test.YtfamomjgjamnoaaDoorPa
namespace Go.Proofs.YtfamomjgjamnoaaDoor
open Go.RowKit

/-- What reads from a place of bytes: what is wrong and where, or what was read and the place behind it. -/
abbrev Rd (α : Type) := Bt → Nat → Except (Int × Int) (α × Nat)
def Rd.ret {α : Type} (x : α) : Rd α := fun _ a => .ok (x, a)
def Rd.bind {α β : Type} (m : Rd α) (f : α → Rd β) : Rd β := fun bs a => match m bs a with | .error e => .error e | .ok (x, a') => f x bs a'
def Rd.bad {α : Type} (e p : Int) : Rd α := fun _ _ => .error (e, p)
def leN : Bt → Nat
  | [] => 0
  | b :: r => b.toNat + 256 * leN r
def rawR (n : Nat) : Rd Bt := fun bs a => if bs.length - a < n then .error (6, bs.length) else .ok ((bs.drop a).take n, a + n)
def numR (k : Nat) : Rd Nat := (rawR k).bind fun l => Rd.ret (leN l)
def cntR (k most : Nat) (e : Int) : Rd Nat := fun bs a => match numR k bs a with | .error e => .error e | .ok (n, a') => if most < n then .error (e, a) else .ok (n, a')
def listR {α : Type} (r : Rd α) : Nat → Rd (List α)
  | 0 => Rd.ret []
  | n + 1 => (listR r n).bind fun l => r.bind fun x => Rd.ret (l ++ [x])
/-- A number with a sign of one without. -/
def sgn (n : Nat) : Int := if n < 9223372036854775808 then n else (n : Int) - 18446744073709551616
def w8R : Rd Int := (numR 8).bind fun n => Rd.ret (sgn n)
def w1R : Rd Int := (numR 1).bind fun n => Rd.ret (n : Int)
def w2R : Rd Int := (numR 2).bind fun n => Rd.ret (n : Int)
def spR : Rd Sp := w8R.bind fun lo => w8R.bind fun hi => Rd.ret (lo, hi)
def isR : Rd Is := w1R.bind fun op => w1R.bind fun a => w1R.bind fun b => w1R.bind fun c => w8R.bind fun n => Rd.ret ⟨op, a, b, c, n⟩
def fnR : Rd Fn := (cntR 1 16 8).bind fun n => (rawR n).bind fun name => (cntR 1 8 3).bind fun k => (listR spR k).bind fun ps => w1R.bind fun regs => w2R.bind fun words => (cntR 2 1024 97).bind fun c => (listR isR c).bind fun code => Rd.ret ⟨tb name, none, 0, ps, regs, words, none, 0, code⟩
def sigI : Nat → Int
  | 0 => 83
  | 1 => 70
  | 2 => 84
  | _ => 1
def markR (i : Nat) : Rd Unit := w1R.bind fun c => if c = sigI i then Rd.ret () else Rd.bad 5 i
/-- So many marks. -/
def marksR : Nat → Rd Unit
  | 0 => Rd.ret ()
  | n + 1 => (marksR n).bind fun _ => markR n
def endR : Rd Unit := fun bs a => if a < bs.length then .error (7, a) else .ok ((), a)
def moR : Rd Mo := (marksR 4).bind fun _ => (cntR 1 16 3).bind fun n => (listR w8R n).bind fun ths => (cntR 1 32 3).bind fun k => (listR fnR k).bind fun fs => endR.bind fun _ => Rd.ret ⟨none, 0, ths, none, 0, fs⟩
/-- What Decode tells. -/
def decZ (bs : Bt) : Except (Int × Int) Mo := if 1048576 < bs.length then .error (4, 1048576) else match moR bs 0 with | .error e => .error e | .ok (m, _) => .ok m

/-- How a reader stands: at a place, or at what was wrong first. -/
inductive Sr where
  | at (a : Nat)
  | bad (e p : Int)
/-- What reading comes to, of a reader that stands so. -/
def Rn {α : Type} (r : Rd α) (bs : Bt) (s : Sr) (x : α) (s' : Sr) : Prop := match s with
  | .bad e p => s' = .bad e p
  | .at a => match r bs a with
    | .error (e, p) => s' = .bad e p
    | .ok (y, a') => x = y ∧ s' = .at a'
theorem Rn.bind {α β : Type} {r : Rd α} {f : α → Rd β} {bs : Bt} {s s' s'' : Sr} {x : α} {y : β} (h : Rn r bs s x s') (k : Rn (f x) bs s' y s'') : Rn (r.bind f) bs s y s'' := by
  cases s with
  | bad e p => simp only [Rn] at h; subst h; exact k
  | «at» a =>
    simp only [Rn, Rd.bind] at h ⊢
    cases hr : r bs a with
    | error ep => rw [hr] at h; simp only at h ⊢; subst h; exact k
    | ok xa => rw [hr] at h; simp only at h ⊢; obtain ⟨rfl, rfl⟩ := h; exact k
theorem Rn.ret {α : Type} {bs : Bt} {s : Sr} (x : α) : Rn (Rd.ret x) bs s x s := by
  cases s with
  | bad e p => rfl
  | «at» a => exact ⟨rfl, rfl⟩
/-- Behind an error anything may have been read. -/
theorem Rn.off {α : Type} {r : Rd α} {bs : Bt} {e p : Int} (x : α) : Rn r bs (.bad e p) x (.bad e p) := rfl
theorem Rn.map {α β : Type} {r : Rd α} {f : α → β} {bs : Bt} {s s' : Sr} {x : α} (h : Rn r bs s x s') : Rn (r.bind fun a => Rd.ret (f a)) bs s (f x) s' := h.bind (Rn.ret _)
/-- Behind an error nothing more is read of a list. -/
theorem Rn.more {α : Type} {r : Rd α} {bs : Bt} {s : Sr} {e p : Int} {l : List α} {j : Nat} (h : Rn (listR r j) bs s l (.bad e p)) : ∀ n, j ≤ n → ∀ l', Rn (listR r n) bs s l' (.bad e p)
  | n, hn, l' => by
    cases s with
    | bad e' p' => exact h
    | «at» a =>
      by_cases hj : j = n
      · subst hj
        simp only [Rn] at h ⊢
        split
        · rename_i he; rw [he] at h; exact h
        · rename_i he; rw [he] at h; exact absurd h.2 (by simp)
      · obtain ⟨m, rfl⟩ : ∃ m, n = m + 1 := ⟨n - 1, by omega⟩
        have := Rn.more h m (by omega) l'
        exact Rn.bind this (x := l') (Rn.off _)
theorem Rn.next {α : Type} {r : Rd α} {bs : Bt} {s s' s'' : Sr} {l : List α} {x : α} {j : Nat} (h : Rn (listR r j) bs s l s') (k : Rn r bs s' x s'') : Rn (listR r (j + 1)) bs s (l ++ [x]) s'' := h.bind (k.bind (Rn.ret _))
/-- What is wrong is kept, unless something was wrong before. -/
def failS (s : Sr) (e p : Int) : Sr := match s with
  | .at _ => .bad e p
  | .bad e' p' => .bad e' p'
theorem Rn.mark_no {bs : Bt} {s s' : Sr} {c : Int} {i : Nat} (h : Rn w1R bs s c s') (hc : c ≠ sigI i) : Rn (markR i) bs s () (failS s' 5 i) := by
  cases s with
  | bad e p => simp only [Rn] at h; subst h; rfl
  | «at» a =>
    simp only [Rn, markR, Rd.bind] at h ⊢
    cases hr : w1R bs a with
    | error ep => rw [hr] at h; simp only at h ⊢; subst h; rfl
    | ok xa => rw [hr] at h; simp only at h ⊢; obtain ⟨rfl, rfl⟩ := h; rw [if_neg hc]; rfl
theorem Rn.mark_ok {bs : Bt} {s s' : Sr} {c : Int} {i : Nat} (h : Rn w1R bs s c s') (hc : c = sigI i) : Rn (markR i) bs s () s' := by
  refine h.bind ?_
  rw [if_pos hc]
  exact Rn.ret _
theorem leN_lt : ∀ (l : Bt), leN l < 256 ^ l.length
  | [] => by simp [leN]
  | b :: r => by
    have := leN_lt r
    have hb := b.toNat_lt
    rw [leN, List.length_cons, Nat.pow_succ]
    omega
end Go.Proofs.YtfamomjgjamnoaaDoor
