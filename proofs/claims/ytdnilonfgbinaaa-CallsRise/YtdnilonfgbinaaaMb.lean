/- What is said of operations and modules: plain. -/
import Derived.Test.YtdnilonfgbinaaaMa
import Derived.Test.YtdnilonfgbinaaaSM
namespace Go.Proofs.Ytdnilonfgbinaaa
open Go.RowKit

/-- What is said of an operation: its word and weight, its registers, those that it reads, whether it writes, what its number is. -/
structure Rw where
  word : ByteArray
  weight : Int
  regs : Int
  reads : Int
  writes : Bool
  n : Int
def rwN : Nat → Rw
  | 0 => ⟨⟨#[114, 101, 116]⟩, 1, 1, 1, false, 0⟩
  | 1 => ⟨⟨#[115, 101, 116]⟩, 1, 1, 0, true, 1⟩
  | 2 => ⟨⟨#[109, 111, 118, 101]⟩, 1, 3, 2, true, 0⟩
  | 3 => ⟨⟨#[97, 100, 100]⟩, 1, 7, 6, true, 0⟩
  | 4 => ⟨⟨#[115, 117, 98]⟩, 1, 7, 6, true, 0⟩
  | 5 => ⟨⟨#[109, 117, 108]⟩, 3, 7, 6, true, 0⟩
  | 6 => ⟨⟨#[100, 105, 118]⟩, 8, 7, 6, true, 0⟩
  | 7 => ⟨⟨#[114, 101, 109]⟩, 8, 7, 6, true, 0⟩
  | 8 => ⟨⟨#[108, 101, 115, 115]⟩, 1, 7, 6, true, 0⟩
  | 9 => ⟨⟨#[101, 113, 117, 97, 108]⟩, 1, 7, 6, true, 0⟩
  | 10 => ⟨⟨#[110, 111, 116]⟩, 1, 3, 2, true, 0⟩
  | 11 => ⟨⟨#[108, 111, 97, 100]⟩, 2, 3, 2, true, 1⟩
  | 12 => ⟨⟨#[115, 116, 111, 114, 101]⟩, 2, 3, 3, false, 1⟩
  | 13 => ⟨⟨#[99, 104, 101, 99, 107]⟩, 1, 1, 1, false, 2⟩
  | 14 => ⟨⟨#[106, 117, 109, 112]⟩, 1, 0, 0, false, 3⟩
  | 15 => ⟨⟨#[105, 102]⟩, 1, 1, 1, false, 3⟩
  | 16 => ⟨⟨#[117, 110, 108, 101, 115, 115]⟩, 1, 1, 1, false, 3⟩
  | 17 => ⟨⟨#[99, 111, 117, 110, 116]⟩, 1, 3, 3, false, 3⟩
  | 18 => ⟨⟨#[115, 116, 101, 112]⟩, 1, 1, 1, true, 3⟩
  | 19 => ⟨⟨#[99, 97, 108, 108]⟩, 4, 3, 0, true, 4⟩
  | _ => ⟨⟨#[]⟩, 0, 0, 0, false, 0⟩
def knB (op : Int) : Bool := decide (0 ≤ op) && decide (op ≤ 19)
def rwOf (op : Int) : Rw := if 0 ≤ op ∧ op ≤ 19 then rwN op.toNat else ⟨⟨#[]⟩, 0, 0, 0, false, 0⟩
def Rw.val (r : Rw) : Value := .agg #[.string r.word, .int .i64 r.weight, .int .i64 r.regs, .int .i64 r.reads, .bool r.writes, .int .i64 r.n]
def Rw.cells (r : Rw) : List Value := [.string r.word, .int .i64 r.weight, .int .i64 r.regs, .int .i64 r.reads, .bool r.writes, .int .i64 r.n]
theorem rwOf_nat {k : Nat} (h : k < 20) : rwOf k = rwN k := by
  unfold rwOf; rw [if_pos (by omega)]; simp
theorem rwOf_no {op : Int} (h : ¬ (0 ≤ op ∧ op ≤ 19)) : rwOf op = ⟨⟨#[]⟩, 0, 0, 0, false, 0⟩ := if_neg h
/-- The twenty operations, one by one. -/
theorem op_cases {P : Int → Prop} {op : Int} (h0 : 0 ≤ op) (h1 : op ≤ 19) (p0 : P 0) (p1 : P 1) (p2 : P 2) (p3 : P 3) (p4 : P 4) (p5 : P 5) (p6 : P 6) (p7 : P 7) (p8 : P 8) (p9 : P 9) (p10 : P 10) (p11 : P 11) (p12 : P 12) (p13 : P 13) (p14 : P 14) (p15 : P 15) (p16 : P 16) (p17 : P 17) (p18 : P 18) (p19 : P 19) : P op := by
  have : op = 0 ∨ op = 1 ∨ op = 2 ∨ op = 3 ∨ op = 4 ∨ op = 5 ∨ op = 6 ∨ op = 7 ∨ op = 8 ∨ op = 9 ∨ op = 10 ∨ op = 11 ∨ op = 12 ∨ op = 13 ∨ op = 14 ∨ op = 15 ∨ op = 16 ∨ op = 17 ∨ op = 18 ∨ op = 19 := by omega
  rcases this with rfl | rfl | rfl | rfl | rfl | rfl | rfl | rfl | rfl | rfl | rfl | rfl | rfl | rfl | rfl | rfl | rfl | rfl | rfl | rfl <;> assumption

/-- Is one bit set? -/
def bt (r : Int) (i : Nat) : Bool := bits .and .i64 r (2 ^ i) != 0
/-- The register that is written. -/
def wrN (x : Is) : Int := if (rwOf x.op).writes then x.a else -1
/-- The registers that are read. -/
def argL (b : Int) (p : Int) : List Int := (List.range (min p 8).toNat).map fun (i : Nat) => wrap64 (b + (i : Int))
def fldL (x : Is) : List Int := (if bt (rwOf x.op).reads 0 then [x.a] else []) ++ (if bt (rwOf x.op).reads 1 then [x.b] else []) ++ (if bt (rwOf x.op).reads 2 then [x.c] else [])
def rdL (x : Is) (p : Int) : List Int := if x.op = 19 then argL x.b p else fldL x

/-- May a text be the name of a module's function? -/
def idB (l : List UInt8) : Bool := match l with | [] => false | c :: _ => decide (l.length ≤ 16) && isLet c && decide (rowLen isLod l = l.length)

/-- Where a name stands first. -/
def fndN : List Fn → ByteArray → Nat → Int
  | [], _, _ => -1
  | f :: r, s, i => if f.name.toList == s.toList then i else fndN r s (i + 1)
theorem fndN_drop {l : List Fn} {s : ByteArray} {j : Nat} (h : j < l.length) : fndN (l.drop j) s j = if l[j].name.toList == s.toList then (j : Int) else fndN (l.drop (j + 1)) s (j + 1) := by
  rw [List.drop_eq_getElem_cons h, fndN]

/-- Do thresholds rise? -/
def riseN : List Int → Nat → Option Nat
  | a :: b :: r, i => if b ≤ a then some (i + 1) else riseN (b :: r) (i + 1)
  | _, _ => none
/-- Which span is empty first? -/
def emptN : List Sp → Nat → Option Nat
  | [], _ => none
  | s :: r, i => if s.1 > s.2 then some i else emptN r (i + 1)
theorem emptN_drop {l : List Sp} {j : Nat} (h : j < l.length) : emptN (l.drop j) j = if l[j].1 > l[j].2 then some j else emptN (l.drop (j + 1)) (j + 1) := by
  rw [List.drop_eq_getElem_cons h, emptN]

/-- What is wrong with a function as a whole: the error and its place. -/
def headZ (m : Mo) (f : Fn) (k : Nat) : Int × Int :=
  if idB f.name.data.toList = false then (8, 0) else if fndN m.funcs f.name 0 < k then (9, 0) else if f.params.length > 8 then (3, 8) else
  match emptN f.params 0 with
  | some i => (40, i)
  | none => if f.regs < 1 ∨ f.regs > 64 ∨ f.regs < f.params.length then (95, 0) else if f.words < 0 ∨ f.words > 4096 then (96, 0) else if f.code.length < 1 ∨ f.code.length > 1024 then (97, 0) else (0, 0)
/-- What is wrong with a field. -/
def regZ (has : Bool) (r regs : Int) : Int := if has then (if r < 0 ∨ r ≥ regs then 61 else 0) else if r ≠ 0 then 62 else 0
/-- How many parameters the function of a number has. -/
def parN (m : Mo) (n : Int) : Int := match m.funcs[n.toNat]? with | some f => f.params.length | none => 0
/-- What is wrong with the number of an instruction. -/
def numZ (m : Mo) (f : Fn) (x : Is) : Int :=
  if (rwOf x.op).n = 0 then (if x.n ≠ 0 then 62 else 0)
  else if (rwOf x.op).n = 2 then (if x.n < 1 ∨ x.n > 4096 then 2 else 0)
  else if (rwOf x.op).n = 3 then (if x.n < 0 ∨ x.n ≥ f.code.length then 63 else 0)
  else if (rwOf x.op).n = 4 then (if x.n < 0 ∨ x.n ≥ m.funcs.length ∨ wrap64 (x.b + parN m x.n) > f.regs then 65 else 0)
  else 0
/-- What is wrong with an instruction. -/
def insZ (m : Mo) (f : Fn) (x : Is) : Int :=
  if knB x.op = false then 60 else
  if regZ (bt (rwOf x.op).regs 0) x.a f.regs ≠ 0 then regZ (bt (rwOf x.op).regs 0) x.a f.regs else
  if regZ (bt (rwOf x.op).regs 1) x.b f.regs ≠ 0 then regZ (bt (rwOf x.op).regs 1) x.b f.regs else
  if regZ (bt (rwOf x.op).regs 2) x.c f.regs ≠ 0 then regZ (bt (rwOf x.op).regs 2) x.c f.regs else numZ m f x
/-- What is wrong with the instructions of a function first, from one on; 0: nothing. -/
def codeN (m : Mo) (f : Fn) : List Is → Nat → Int × Int
  | [], _ => (0, 0)
  | x :: r, i => if insZ m f x ≠ 0 then (insZ m f x, i) else codeN m f r (i + 1)
theorem codeN_drop {m : Mo} {f : Fn} {l : List Is} {j : Nat} (h : j < l.length) : codeN m f (l.drop j) j = if insZ m f l[j] ≠ 0 then (insZ m f l[j], (j : Int)) else codeN m f (l.drop (j + 1)) (j + 1) := by
  rw [List.drop_eq_getElem_cons h, codeN]
def lastOp (f : Fn) : Int := match f.code[f.code.length - 1]? with | some x => x.op | none => 0
def codeZ (m : Mo) (f : Fn) : Int × Int :=
  if (codeN m f f.code 0).1 ≠ 0 then codeN m f f.code 0 else if lastOp f = 0 ∨ lastOp f = 14 ∨ lastOp f = 18 then (0, 0) else (64, (f.code.length : Int) - 1)
def headsN (m : Mo) : List Fn → Nat → Int × Int × Int
  | [], _ => (0, 0, 0)
  | f :: r, i => if (headZ m f i).1 ≠ 0 then ((headZ m f i).1, (i : Int), (headZ m f i).2) else headsN m r (i + 1)
theorem headsN_drop {m : Mo} {l : List Fn} {j : Nat} (h : j < l.length) : headsN m (l.drop j) j = if (headZ m l[j] j).1 ≠ 0 then ((headZ m l[j] j).1, (j : Int), (headZ m l[j] j).2) else headsN m (l.drop (j + 1)) (j + 1) := by
  rw [List.drop_eq_getElem_cons h, headsN]
def codesN (m : Mo) : List Fn → Nat → Int × Int × Int
  | [], _ => (0, 0, 0)
  | f :: r, i => if (codeZ m f).1 ≠ 0 then ((codeZ m f).1, (i : Int), (codeZ m f).2) else codesN m r (i + 1)
theorem codesN_drop {m : Mo} {l : List Fn} {j : Nat} (h : j < l.length) : codesN m (l.drop j) j = if (codeZ m l[j]).1 ≠ 0 then ((codeZ m l[j]).1, (j : Int), (codeZ m l[j]).2) else codesN m (l.drop (j + 1)) (j + 1) := by
  rw [List.drop_eq_getElem_cons h, codesN]
def wholeZ (m : Mo) : Int × Int × Int :=
  if m.ths.length > 16 then (3, 0, 16) else
  match riseN m.ths 0 with
  | some i => (66, 0, i)
  | none => if m.funcs.length > 32 then (3, 32, 0) else (0, 0, 0)
/-- What is wrong with a module first. -/
def mayZ (m : Mo) : Int × Int × Int :=
  if (wholeZ m).1 ≠ 0 then wholeZ m else if (headsN m m.funcs 0).1 ≠ 0 then headsN m m.funcs 0 else codesN m m.funcs 0
def fltV (z : Int × Int × Int) : Value := .agg #[.int .i64 z.1, .int .i64 z.2.1, .int .i64 z.2.2]

/-- Are they the same? -/
def samI : List Int → List Int → Bool
  | [], [] => true
  | x :: l, y :: t => x == y && samI l t
  | _, _ => false
def samP (x y : Sp) : Bool := x.1 == y.1 && x.2 == y.2
def samPs : List Sp → List Sp → Bool
  | [], [] => true
  | x :: l, y :: t => samP x y && samPs l t
  | _, _ => false
def samX (x y : Is) : Bool := x.op == y.op && (x.a == y.a && (x.b == y.b && (x.c == y.c && x.n == y.n)))
def samXs : List Is → List Is → Bool
  | [], [] => true
  | x :: l, y :: t => samX x y && samXs l t
  | _, _ => false
def samF (x y : Fn) : Bool := x.name.toList == y.name.toList && (x.regs == y.regs && (x.words == y.words && (samPs x.params y.params && samXs x.code y.code)))
def samFs : List Fn → List Fn → Bool
  | [], [] => true
  | x :: l, y :: t => samF x y && samFs l t
  | _, _ => false
def samM (p q : Mo) : Bool := samI p.ths q.ths && samFs p.funcs q.funcs
theorem samI_drop {l t : List Int} {j : Nat} (h : j < l.length) (h' : j < t.length) : samI (l.drop j) (t.drop j) = (l[j] == t[j] && samI (l.drop (j + 1)) (t.drop (j + 1))) := by
  rw [List.drop_eq_getElem_cons h, List.drop_eq_getElem_cons h', samI]
theorem samI_len : ∀ {l t : List Int}, l.length ≠ t.length → samI l t = false
  | [], [], h => by simp at h
  | [], _ :: _, _ => rfl
  | _ :: _, [], _ => rfl
  | x :: l, y :: t, h => by rw [samI, samI_len (by simpa using h), Bool.and_false]
theorem samPs_drop {l t : List Sp} {j : Nat} (h : j < l.length) (h' : j < t.length) : samPs (l.drop j) (t.drop j) = (samP l[j] t[j] && samPs (l.drop (j + 1)) (t.drop (j + 1))) := by
  rw [List.drop_eq_getElem_cons h, List.drop_eq_getElem_cons h', samPs]
theorem samPs_len : ∀ {l t : List Sp}, l.length ≠ t.length → samPs l t = false
  | [], [], h => by simp at h
  | [], _ :: _, _ => rfl
  | _ :: _, [], _ => rfl
  | x :: l, y :: t, h => by rw [samPs, samPs_len (by simpa using h), Bool.and_false]
theorem samXs_drop {l t : List Is} {j : Nat} (h : j < l.length) (h' : j < t.length) : samXs (l.drop j) (t.drop j) = (samX l[j] t[j] && samXs (l.drop (j + 1)) (t.drop (j + 1))) := by
  rw [List.drop_eq_getElem_cons h, List.drop_eq_getElem_cons h', samXs]
theorem samXs_len : ∀ {l t : List Is}, l.length ≠ t.length → samXs l t = false
  | [], [], h => by simp at h
  | [], _ :: _, _ => rfl
  | _ :: _, [], _ => rfl
  | x :: l, y :: t, h => by rw [samXs, samXs_len (by simpa using h), Bool.and_false]
theorem samFs_drop {l t : List Fn} {j : Nat} (h : j < l.length) (h' : j < t.length) : samFs (l.drop j) (t.drop j) = (samF l[j] t[j] && samFs (l.drop (j + 1)) (t.drop (j + 1))) := by
  rw [List.drop_eq_getElem_cons h, List.drop_eq_getElem_cons h', samFs]
theorem samFs_len : ∀ {l t : List Fn}, l.length ≠ t.length → samFs l t = false
  | [], [], h => by simp at h
  | [], _ :: _, _ => rfl
  | _ :: _, [], _ => rfl
  | x :: l, y :: t, h => by rw [samFs, samFs_len (by simpa using h), Bool.and_false]
end Go.Proofs.Ytdnilonfgbinaaa
