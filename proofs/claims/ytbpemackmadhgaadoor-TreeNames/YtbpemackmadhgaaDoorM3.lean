/- Statements' and programs' texts. -/
import Derived.Test.YtbpemackmadhgaaDoorM2
import Derived.Test.YtbpemackmadhgaaDoorP4
namespace Go.Proofs.YtbpemackmadhgaaDoor
open Go.RowKit

mutual
def txS : St → Nat → List UInt8
  | .mk k s n a b _ _ l _ _ e _ _ c, d =>
    if k = 1 then lineB d ([108, 101, 116, 32] ++ s.data.toList ++ [32, 61, 32] ++ txE a ++ [59])
    else if k = 2 then lineB d ([108, 101, 116, 32] ++ s.data.toList ++ [91] ++ Lib.itoa n ++ [93, 59])
    else if k = 3 then lineB d (s.data.toList ++ [32, 61, 32] ++ txE a ++ [59])
    else if k = 4 then lineB d (s.data.toList ++ [91] ++ txE a ++ [93, 32, 61, 32] ++ txE b ++ [59])
    else if k = 5 then lineB d ([105, 102, 32] ++ txE a ++ [32, 123]) ++ txSs l (d + 1) ++ (if e.length = 0 then [] else lineB d [125, 32, 101, 108, 115, 101, 32, 123] ++ txSs e (d + 1)) ++ lineB d [125]
    else if k = 6 then lineB d ([115, 119, 105, 116, 99, 104, 32] ++ txE a ++ [32, 123]) ++ txCs c (d + 1) ++ (if e.length = 0 then [] else lineB (d + 1) [101, 108, 115, 101, 32, 123] ++ txSs e (d + 2) ++ lineB (d + 1) [125]) ++ lineB d [125]
    else if k = 7 then lineB d ([102, 111, 114, 32] ++ s.data.toList ++ [32, 105, 110, 32] ++ txE a ++ [46, 46] ++ txE b ++ [32, 123]) ++ txSs l (d + 1) ++ lineB d [125]
    else if k = 8 then lineB d [98, 114, 101, 97, 107, 59]
    else if k = 9 then lineB d ([114, 101, 116, 117, 114, 110, 32] ++ txE a ++ [59])
    else lineB d (txE a ++ [59])
def txSs : List St → Nat → List UInt8
  | [], _ => []
  | s :: r, d => txS s d ++ txSs r d
def txC : Ca → Nat → List UInt8
  | .mk n _ _ l, d => lineB d ([99, 97, 115, 101, 32] ++ Lib.itoa n ++ [32, 123]) ++ txSs l (d + 1) ++ lineB d [125]
def txCs : List Ca → Nat → List UInt8
  | [], _ => []
  | c :: r, d => txC c d ++ txCs r d
end
theorem txSs_take (l : List St) (d j : Nat) (h : j < l.length) : txSs (l.take (j + 1)) d = txSs (l.take j) d ++ txS l[j] d := by
  induction l generalizing j with
  | nil => simp at h
  | cons x r ih =>
    cases j with
    | zero => simp [txSs]
    | succ j =>
      have := ih j (by simpa using h)
      rw [List.take_succ_cons, List.take_succ_cons, txSs, txSs, this]; simp
theorem txSs_le (l : List St) (d j : Nat) : (txSs (l.take j) d).length ≤ (txSs l d).length := by
  induction l generalizing j with
  | nil => simp
  | cons x r ih =>
    cases j with
    | zero => simp [txSs]
    | succ j => rw [List.take_succ_cons, txSs, txSs]; simp only [List.length_append]; have := ih j; omega
/-- A function's text. -/
def txF (f : Fu) : List UInt8 := lineB 0 ([102, 110, 32] ++ f.name.data.toList ++ [40] ++ comB (f.params.map paB) ++ [41, 32, 123]) ++ txSs f.body 1 ++ lineB 0 [125]
def txFs : List Fu → List UInt8
  | [] => []
  | f :: r => txF f ++ txFs r
theorem txFs_take (l : List Fu) (j : Nat) (h : j < l.length) : txFs (l.take (j + 1)) = txFs (l.take j) ++ txF l[j] := by
  induction l generalizing j with
  | nil => simp at h
  | cons x r ih =>
    cases j with
    | zero => simp [txFs]
    | succ j =>
      have := ih j (by simpa using h)
      rw [List.take_succ_cons, List.take_succ_cons, txFs, txFs, this]; simp
theorem txFs_le (l : List Fu) (j : Nat) : (txFs (l.take j)).length ≤ (txFs l).length := by
  induction l generalizing j with
  | nil => simp
  | cons x r ih =>
    cases j with
    | zero => simp [txFs]
    | succ j => rw [List.take_succ_cons, txFs, txFs]; simp only [List.length_append]; have := ih j; omega
def txW (l : List Int) : List UInt8 := if l.length = 0 then [] else lineB 0 ([119, 105, 100, 101, 110, 32] ++ comB (l.map Lib.itoa) ++ [59])
/-- A program's text. -/
def txP (p : Pr) : List UInt8 := txW p.widen ++ txFs p.funcs
end Go.Proofs.YtbpemackmadhgaaDoor
