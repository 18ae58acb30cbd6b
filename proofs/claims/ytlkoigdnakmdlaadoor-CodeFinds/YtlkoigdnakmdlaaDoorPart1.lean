/- Modules as data, with the addresses at which their lists lie; what it is that a world holds such a module. -/
import Derived.WalkKit
import Derived.WalkSpells
import Derived.WalkLawsBesides
import Derived.ProofKit
import Derived.BigQuiet
import Derived.Lib.Walk
import Derived.Below
import Derived.Test.YtlkoigdnakmdlaaDoorProg
import Derived.Lib.QuietBelow
import Derived.Deep.RegionHeld3
import Derived.Laws.StructEq
import Derived.Deep.Cut
import Derived.Deep.CutRange
import Derived.Deep.CutBlock
import Derived.Test.YtlkoigdnakmdlaaDoorCards
import Derived.Test.YtlkoigdnakmdlaaDoorTie
import Derived.OpenShut
import Derived.Deep.Slices
import Derived.Deep.DeepHandedRow
import Derived.Lib.LaidTab
import Derived.Lib.SmallJoins
import Derived.Stop.LaidErr
import Derived.Carry
import Derived.RangeFuncNested
import Derived.RangeFuncBound
import Derived.RangeFuncCalls
import Derived.RangeFuncLeaves
import Derived.Shelf.Abstract
import Derived.Shelf.RegionOpen
import Derived.OwnWalkIn
import Derived.TacticsInMore
import Derived.LoopNIn
import Derived.LoopIn
import Derived.Maps.AppendAt
import Derived.Deep.DeepAppendRoom
import Derived.Deep.AppendSrc
namespace Go.Proofs.YtlkoigdnakmdlaaDoor
open Go.RowKit

theorem Hid.mk' {p : Prop} (h : p) : Hid p := h
theorem Below.on {A B C : World} (h : Below A.heap.size A B) (k : Below B.heap.size B C) : Below A.heap.size A C := h.trans (k.mono h.size)
theorem Below.one {A B : World} (h : Below A.heap.size A B) (o : Obj) : Below A.heap.size A (B.alloc o) := h.alloc h.size o
theorem ret_int {k : IntKind} {a b : Int} (h : a = b) : Ending.returned (.int k a) = .returned (.int k b) := by rw [h]
theorem ret_bool {a b : Bool} (h : a = b) : Ending.returned (.bool a) = .returned (.bool b) := by rw [h]
theorem ret_val {a b : Value} (h : a = b) : Ending.returned a = .returned b := by rw [h]
theorem bne_of {a b : Int} (h : a ≠ b) : (a != b) = true := by simp only [bne_iff_ne]; exact h
theorem beq_no {a b : Int} (h : a ≠ b) : (a == b) = false := by rw [beq_eq_false_iff_ne]; exact h
theorem bne_no {a b : Int} (h : a = b) : (a != b) = false := by simp [h]

/-- Numbers of 64 bits. -/
def I64 (n : Int) : Prop := -9223372036854775808 ≤ n ∧ n ≤ 9223372036854775807
theorem I64.wrap {n : Int} (h : I64 n) : IntKind.i64.wrap n = n := by rw [IntKind.wrap_i64]; unfold I64 at h; omega

/-- A list's elements, of so many cells each, lie at an address. -/
def RowIn (W : World) (a : Option Addr) (sz : Nat) (rows : List (List Value)) : Prop :=
  ∀ i cs, rows[i]? = some cs → ∃ b o, a = some ⟨b, o, none⟩ ∧ ∀ j v, cs[j]? = some v → W.cell? ⟨b, o + (i * sz + j), none⟩ = some v
theorem lt_of_cell {W : World} {p : Addr} {v : Value} (h : W.cell? p = some v) : p.block < W.heap.size := by
  by_cases hlt : p.block < W.heap.size
  · exact hlt
  · unfold World.cell? at h
    rw [Array.getElem?_eq_none (by omega)] at h
    cases h
theorem RowIn.below {W W' : World} {a : Option Addr} {sz : Nat} {rows : List (List Value)} (h : RowIn W a sz rows) (hb : Below W.heap.size W W') : RowIn W' a sz rows := by
  intro i cs hi
  obtain ⟨b, o, e, hc⟩ := h i cs hi
  refine ⟨b, o, e, fun j v hj => ?_⟩
  have := hc j v hj
  exact (hb.cell (lt_of_cell this)).trans this

/-- A span; an instruction; a function; a module. -/
abbrev Sp := Int × Int
def spC (s : Sp) : List Value := [.int .i64 s.1, .int .i64 s.2]
def spV (s : Sp) : Value := .agg #[.int .i64 s.1, .int .i64 s.2]
def spOk (s : Sp) : Prop := I64 s.1 ∧ I64 s.2
structure Is where
  op : Int
  a : Int
  b : Int
  c : Int
  n : Int
deriving DecidableEq
def Is.cells (x : Is) : List Value := [.int .i64 x.op, .int .i64 x.a, .int .i64 x.b, .int .i64 x.c, .int .i64 x.n]
def Is.val (x : Is) : Value := .agg #[.int .i64 x.op, .int .i64 x.a, .int .i64 x.b, .int .i64 x.c, .int .i64 x.n]
def Is.Ok (x : Is) : Prop := I64 x.op ∧ I64 x.a ∧ I64 x.b ∧ I64 x.c ∧ I64 x.n
structure Fn where
  name : ByteArray
  pa : Option Addr
  pc : Nat
  params : List Sp
  regs : Int
  words : Int
  ca : Option Addr
  cc : Nat
  code : List Is
def Fn.cells (f : Fn) : List Value := [.string f.name, .slice f.pa f.params.length f.pc, .int .i64 f.regs, .int .i64 f.words, .slice f.ca f.code.length f.cc]
def Fn.val (f : Fn) : Value := .agg #[.string f.name, .slice f.pa f.params.length f.pc, .int .i64 f.regs, .int .i64 f.words, .slice f.ca f.code.length f.cc]
structure Mo where
  ta : Option Addr
  tc : Nat
  ths : List Int
  fa : Option Addr
  fc : Nat
  funcs : List Fn
def Mo.val (m : Mo) : Value := .agg #[.slice m.ta m.ths.length m.tc, .slice m.fa m.funcs.length m.fc]
def thC (z : Int) : List Value := [.int .i64 z]

/-- Lists that lie in memory. -/
def Thr (W : World) (a : Option Addr) (l : List Int) : Prop := l.length * 8 ≤ 140737488351232 ∧ RowIn W a 1 (l.map thC)
def Sps (W : World) (a : Option Addr) (l : List Sp) : Prop := l.length * 16 ≤ 140737488351232 ∧ RowIn W a 2 (l.map spC)
def Iss (W : World) (a : Option Addr) (l : List Is) : Prop := l.length * 40 ≤ 140737488351232 ∧ RowIn W a 5 (l.map Is.cells)
def Fns (W : World) (a : Option Addr) (l : List Fn) : Prop := l.length * 80 ≤ 140737488351232 ∧ RowIn W a 5 (l.map Fn.cells)
def Fn.In (W : World) (f : Fn) : Prop := f.name.size ≤ 140737488351232 ∧ I64 f.regs ∧ I64 f.words ∧ Sps W f.pa f.params ∧ (∀ p ∈ f.params, spOk p) ∧ Iss W f.ca f.code ∧ ∀ x ∈ f.code, x.Ok
def Mo.In (W : World) (m : Mo) : Prop := Thr W m.ta m.ths ∧ (∀ z ∈ m.ths, I64 z) ∧ Fns W m.fa m.funcs ∧ ∀ f ∈ m.funcs, f.In W
theorem Thr.stay {W W' : World} (hb : Below W.heap.size W W') {a : Option Addr} {l : List Int} (h : Thr W a l) : Thr W' a l := ⟨h.1, h.2.below hb⟩
theorem Sps.stay {W W' : World} (hb : Below W.heap.size W W') {a : Option Addr} {l : List Sp} (h : Sps W a l) : Sps W' a l := ⟨h.1, h.2.below hb⟩
theorem Iss.stay {W W' : World} (hb : Below W.heap.size W W') {a : Option Addr} {l : List Is} (h : Iss W a l) : Iss W' a l := ⟨h.1, h.2.below hb⟩
theorem Fns.stay {W W' : World} (hb : Below W.heap.size W W') {a : Option Addr} {l : List Fn} (h : Fns W a l) : Fns W' a l := ⟨h.1, h.2.below hb⟩
theorem Fn.In.stay {W W' : World} (hb : Below W.heap.size W W') {f : Fn} (h : f.In W) : f.In W' := ⟨h.1, h.2.1, h.2.2.1, h.2.2.2.1.stay hb, h.2.2.2.2.1, h.2.2.2.2.2.1.stay hb, h.2.2.2.2.2.2⟩
theorem Mo.In.stay {W W' : World} (hb : Below W.heap.size W W') {m : Mo} (h : m.In W) : m.In W' := ⟨h.1.stay hb, h.2.1, h.2.2.1.stay hb, fun f hf => (h.2.2.2 f hf).stay hb⟩

theorem thr_at {W : World} {a : Option Addr} {l : List Int} (h : Thr W a l) {i : Nat} (hi : i < l.length) : ∃ b o, a = some ⟨b, o, none⟩ ∧ W.cell? ⟨b, o + i, none⟩ = some (.int .i64 l[i]) := by
  obtain ⟨b, o, e, hc⟩ := h.2 i (thC l[i]) (by simp [hi])
  exact ⟨b, o, e, by simpa using hc 0 _ rfl⟩
theorem sps_at {W : World} {a : Option Addr} {l : List Sp} (h : Sps W a l) {i : Nat} (hi : i < l.length) : ∃ b o, a = some ⟨b, o, none⟩ ∧ W.cell? ⟨b, o + i * 2, none⟩ = some (.int .i64 l[i].1) ∧ W.cell? ⟨b, o + i * 2 + 1, none⟩ = some (.int .i64 l[i].2) := by
  obtain ⟨b, o, e, hc⟩ := h.2 i (spC l[i]) (by simp [hi])
  exact ⟨b, o, e, hc 0 _ rfl, hc 1 _ rfl⟩
theorem iss_at {W : World} {a : Option Addr} {l : List Is} (h : Iss W a l) {i : Nat} (hi : i < l.length) : ∃ b o, a = some ⟨b, o, none⟩ ∧ W.cell? ⟨b, o + i * 5, none⟩ = some (.int .i64 l[i].op) ∧ W.cell? ⟨b, o + i * 5 + 1, none⟩ = some (.int .i64 l[i].a) ∧ W.cell? ⟨b, o + i * 5 + 2, none⟩ = some (.int .i64 l[i].b) ∧ W.cell? ⟨b, o + i * 5 + 3, none⟩ = some (.int .i64 l[i].c) ∧ W.cell? ⟨b, o + i * 5 + 4, none⟩ = some (.int .i64 l[i].n) := by
  obtain ⟨b, o, e, hc⟩ := h.2 i l[i].cells (by simp [hi])
  exact ⟨b, o, e, hc 0 _ rfl, hc 1 _ rfl, hc 2 _ rfl, hc 3 _ rfl, hc 4 _ rfl⟩
theorem fns_at {W : World} {a : Option Addr} {l : List Fn} (h : Fns W a l) {i : Nat} (hi : i < l.length) : ∃ b o, a = some ⟨b, o, none⟩ ∧ W.cell? ⟨b, o + i * 5, none⟩ = some (.string l[i].name) ∧ W.cell? ⟨b, o + i * 5 + 1, none⟩ = some (.slice l[i].pa l[i].params.length l[i].pc) ∧ W.cell? ⟨b, o + i * 5 + 2, none⟩ = some (.int .i64 l[i].regs) ∧ W.cell? ⟨b, o + i * 5 + 3, none⟩ = some (.int .i64 l[i].words) ∧ W.cell? ⟨b, o + i * 5 + 4, none⟩ = some (.slice l[i].ca l[i].code.length l[i].cc) := by
  obtain ⟨b, o, e, hc⟩ := h.2 i l[i].cells (by simp [hi])
  exact ⟨b, o, e, hc 0 _ rfl, hc 1 _ rfl, hc 2 _ rfl, hc 3 _ rfl, hc 4 _ rfl⟩
end Go.Proofs.YtlkoigdnakmdlaaDoor

/- Plain facts on bytes and lists that the walks of package scan and of its reference share: no program stands in it. -/
namespace Go.Proofs.YtlkoigdnakmdlaaDoor

def letB (n : Int) : Bool := decide (97 ≤ n ∧ n ≤ 122)
def digB (n : Int) : Bool := decide (48 ≤ n ∧ n ≤ 57)
def lodB (n : Int) : Bool := letB n || digB n
def isLet (c : UInt8) : Bool := letB c.toNat
def isDig (c : UInt8) : Bool := digB c.toNat
def isLod (c : UInt8) : Bool := lodB c.toNat

def rowLen (p : UInt8 → Bool) (l : List UInt8) : Nat := (l.takeWhile p).length

theorem rowLen_le (p : UInt8 → Bool) (l : List UInt8) : rowLen p l ≤ l.length := by
  unfold rowLen; exact (List.takeWhile_prefix p).length_le

theorem rowLen_nil (p : UInt8 → Bool) : rowLen p [] = 0 := rfl
theorem rowLen_cons (p : UInt8 → Bool) (c : UInt8) (l : List UInt8) : rowLen p (c :: l) = if p c then rowLen p l + 1 else 0 := by
  unfold rowLen; rw [List.takeWhile_cons]; split <;> simp

theorem rowLen_hit (p : UInt8 → Bool) : ∀ (l : List UInt8) (k : Nat), k ≤ rowLen p l → (h : k < l.length) → p l[k] = true → k + 1 ≤ rowLen p l
  | [], k, _, h, _ => by simp at h
  | c :: l, 0, _, _, hp => by rw [rowLen_cons, if_pos (by simpa using hp)]; omega
  | c :: l, k + 1, hk, h, hp => by
    rw [rowLen_cons] at hk ⊢
    by_cases hc : p c = true
    · rw [if_pos hc] at hk ⊢
      have := rowLen_hit p l k (by omega) (by simpa using h) (by simpa using hp)
      omega
    · rw [if_neg hc] at hk; omega

theorem rowLen_miss (p : UInt8 → Bool) : ∀ (l : List UInt8) (k : Nat), k ≤ rowLen p l → (h : k < l.length) → p l[k] = false → rowLen p l = k
  | [], k, _, h, _ => by simp at h
  | c :: l, 0, _, _, hp => by rw [rowLen_cons, if_neg (by simpa using hp)]
  | c :: l, k + 1, hk, h, hp => by
    rw [rowLen_cons] at hk ⊢
    by_cases hc : p c = true
    · rw [if_pos hc] at hk ⊢
      have := rowLen_miss p l k (by omega) (by simpa using h) (by simpa using hp)
      omega
    · rw [if_neg hc] at hk; omega

/-- The bytes that are passed over: blanks, and a remark up to ahead of its line's end. -/
def blankB (c : UInt8) : Bool := (c.toNat : Int) == 32 || (c.toNat : Int) == 9 || (c.toNat : Int) == 10 || (c.toNat : Int) == 13

theorem blank_of32 {c : UInt8} (h : ((c.toNat : Int) == 32) = true) : blankB c = true := by simp [blankB, h]
theorem blank_of9 {c : UInt8} (h : ((c.toNat : Int) == 9) = true) : blankB c = true := by simp [blankB, h]
theorem blank_of10 {c : UInt8} (h : ((c.toNat : Int) == 10) = true) : blankB c = true := by simp [blankB, h]
theorem blank_of13 {c : UInt8} (h : ((c.toNat : Int) == 13) = true) : blankB c = true := by simp [blankB, h]
theorem blank_not {c : UInt8} (h1 : ((c.toNat : Int) == 32) = false) (h2 : ((c.toNat : Int) == 9) = false) (h3 : ((c.toNat : Int) == 10) = false) (h4 : ((c.toNat : Int) == 13) = false) : blankB c = false := by
  unfold blankB; rw [h1, h2, h3, h4]; rfl

/-- How many bytes are passed over (true: within a remark). -/
def skip : Bool → List UInt8 → Nat
  | _, [] => 0
  | false, c :: r => if blankB c then skip false r + 1 else if (c.toNat : Int) == 35 then skip true r + 1 else 0
  | true, c :: r => if (c.toNat : Int) == 10 then skip false r + 1 else skip true r + 1

theorem skip_le : ∀ (b : Bool) (l : List UInt8), skip b l ≤ l.length
  | _, [] => by simp [skip]
  | false, c :: r => by have h1 := skip_le false r; have h2 := skip_le true r; rw [skip]; split; · simpa using h1
                        split; · simpa using h2
                        simp
  | true, c :: r => by have h1 := skip_le false r; have h2 := skip_le true r; rw [skip]; split; · simpa using h1
                       simpa using h2

/-- Where what is passed over from k on ends. -/
def passEnd (b : Bool) (l : List UInt8) (k : Nat) : Nat := k + skip b (l.drop k)

theorem passEnd_le (b : Bool) (l : List UInt8) (k : Nat) (h : k ≤ l.length) : passEnd b l k ≤ l.length := by
  unfold passEnd; have := skip_le b (l.drop k); rw [List.length_drop] at this; omega
theorem passEnd_ge (b : Bool) (l : List UInt8) (k : Nat) : k ≤ passEnd b l k := by unfold passEnd; omega
theorem passEnd_end (b : Bool) (l : List UInt8) (k : Nat) (h : l.length ≤ k) : passEnd b l k = k := by
  unfold passEnd; rw [List.drop_eq_nil_of_le h]; cases b <;> rfl
theorem passEnd_blank (l : List UInt8) (k : Nat) (h : k < l.length) (hb : blankB l[k] = true) : passEnd false l k = passEnd false l (k + 1) := by
  unfold passEnd; rw [List.drop_eq_getElem_cons h, skip, if_pos hb]; omega
theorem passEnd_hash (l : List UInt8) (k : Nat) (h : k < l.length) (hb : ((l[k].toNat : Int) == 35) = true) : passEnd false l k = passEnd true l (k + 1) := by
  have hn : blankB l[k] = false := by simp at hb; simp [blankB, hb]
  unfold passEnd; rw [List.drop_eq_getElem_cons h, skip, if_neg (by simp [hn]), if_pos hb]; omega
theorem passEnd_hash0 (l : List UInt8) (k : Nat) (h : k < l.length) (hb : ((l[k].toNat : Int) == 35) = true) : passEnd false l k = passEnd true l k := by
  rw [passEnd_hash l k h hb]
  unfold passEnd; rw [List.drop_eq_getElem_cons h, skip, if_neg (by simp at hb; simp [hb])]; omega
theorem passEnd_stop (l : List UInt8) (k : Nat) (h : k < l.length) (h1 : blankB l[k] = false) (h2 : ((l[k].toNat : Int) == 35) = false) : passEnd false l k = k := by
  unfold passEnd; rw [List.drop_eq_getElem_cons h, skip, if_neg (by simp [h1]), if_neg (by simp at h2; simp [h2])]; omega
theorem passEnd_line (l : List UInt8) (k : Nat) (h : k < l.length) (hb : ((l[k].toNat : Int) == 10) = true) : passEnd true l k = passEnd false l (k + 1) := by
  unfold passEnd; rw [List.drop_eq_getElem_cons h, skip, if_pos hb]; omega
theorem passEnd_line0 (l : List UInt8) (k : Nat) (h : k < l.length) (hb : ((l[k].toNat : Int) == 10) = true) : passEnd true l k = passEnd false l k := by
  rw [passEnd_line l k h hb, passEnd_blank l k h (by simp at hb; simp [blankB, hb])]
theorem passEnd_in (l : List UInt8) (k : Nat) (h : k < l.length) (hb : ((l[k].toNat : Int) == 10) = false) : passEnd true l k = passEnd true l (k + 1) := by
  unfold passEnd; rw [List.drop_eq_getElem_cons h, skip, if_neg (by simp at hb; simp [hb])]; omega

def wordB (l : List UInt8) : Bool := l == [119, 105, 100, 101, 110] || l == [102, 110] || l == [108, 101, 116] || l == [102, 111, 114] || l == [105, 110] || l == [105, 102] || l == [101, 108, 115, 101] || l == [115, 119, 105, 116, 99, 104] || l == [99, 97, 115, 101] || l == [98, 114, 101, 97, 107] || l == [114, 101, 116, 117, 114, 110]
theorem ba_len (s : ByteArray) : s.data.toList.length = s.size := by rw [Array.length_toList]; rfl
end Go.Proofs.YtlkoigdnakmdlaaDoor

/- What is said of operations and modules: plain. -/
namespace Go.Proofs.YtlkoigdnakmdlaaDoor
open Go.RowKit

/-- What is said of an operation: its word and weight, its registers, those that it reads, whether it writes, what its number is. -/
structure Rw where
  word : ByteArray
  weight : Int
  regs : Int
  reads : Int
  writes : Bool
  n : Int
def rwN : Nat → Rw
  | 0 => ⟨⟨#[114, 101, 116]⟩, 1, 1, 1, false, 0⟩
  | 1 => ⟨⟨#[115, 101, 116]⟩, 1, 1, 0, true, 1⟩
  | 2 => ⟨⟨#[109, 111, 118, 101]⟩, 1, 3, 2, true, 0⟩
  | 3 => ⟨⟨#[97, 100, 100]⟩, 1, 7, 6, true, 0⟩
  | 4 => ⟨⟨#[115, 117, 98]⟩, 1, 7, 6, true, 0⟩
  | 5 => ⟨⟨#[109, 117, 108]⟩, 3, 7, 6, true, 0⟩
  | 6 => ⟨⟨#[100, 105, 118]⟩, 8, 7, 6, true, 0⟩
  | 7 => ⟨⟨#[114, 101, 109]⟩, 8, 7, 6, true, 0⟩
  | 8 => ⟨⟨#[108, 101, 115, 115]⟩, 1, 7, 6, true, 0⟩
  | 9 => ⟨⟨#[101, 113, 117, 97, 108]⟩, 1, 7, 6, true, 0⟩
  | 10 => ⟨⟨#[110, 111, 116]⟩, 1, 3, 2, true, 0⟩
  | 11 => ⟨⟨#[108, 111, 97, 100]⟩, 2, 3, 2, true, 1⟩
  | 12 => ⟨⟨#[115, 116, 111, 114, 101]⟩, 2, 3, 3, false, 1⟩
  | 13 => ⟨⟨#[99, 104, 101, 99, 107]⟩, 1, 1, 1, false, 2⟩
  | 14 => ⟨⟨#[106, 117, 109, 112]⟩, 1, 0, 0, false, 3⟩
  | 15 => ⟨⟨#[105, 102]⟩, 1, 1, 1, false, 3⟩
  | 16 => ⟨⟨#[117, 110, 108, 101, 115, 115]⟩, 1, 1, 1, false, 3⟩
  | 17 => ⟨⟨#[99, 111, 117, 110, 116]⟩, 1, 3, 3, false, 3⟩
  | 18 => ⟨⟨#[115, 116, 101, 112]⟩, 1, 1, 1, true, 3⟩
  | 19 => ⟨⟨#[99, 97, 108, 108]⟩, 4, 3, 0, true, 4⟩
  | _ => ⟨⟨#[]⟩, 0, 0, 0, false, 0⟩
def knB (op : Int) : Bool := decide (0 ≤ op) && decide (op ≤ 19)
def rwOf (op : Int) : Rw := if 0 ≤ op ∧ op ≤ 19 then rwN op.toNat else ⟨⟨#[]⟩, 0, 0, 0, false, 0⟩
def Rw.val (r : Rw) : Value := .agg #[.string r.word, .int .i64 r.weight, .int .i64 r.regs, .int .i64 r.reads, .bool r.writes, .int .i64 r.n]
def Rw.cells (r : Rw) : List Value := [.string r.word, .int .i64 r.weight, .int .i64 r.regs, .int .i64 r.reads, .bool r.writes, .int .i64 r.n]
theorem rwOf_nat {k : Nat} (h : k < 20) : rwOf k = rwN k := by
  unfold rwOf; rw [if_pos (by omega)]; simp
theorem rwOf_no {op : Int} (h : ¬ (0 ≤ op ∧ op ≤ 19)) : rwOf op = ⟨⟨#[]⟩, 0, 0, 0, false, 0⟩ := if_neg h
/-- The twenty operations, one by one. -/
theorem op_cases {P : Int → Prop} {op : Int} (h0 : 0 ≤ op) (h1 : op ≤ 19) (p0 : P 0) (p1 : P 1) (p2 : P 2) (p3 : P 3) (p4 : P 4) (p5 : P 5) (p6 : P 6) (p7 : P 7) (p8 : P 8) (p9 : P 9) (p10 : P 10) (p11 : P 11) (p12 : P 12) (p13 : P 13) (p14 : P 14) (p15 : P 15) (p16 : P 16) (p17 : P 17) (p18 : P 18) (p19 : P 19) : P op := by
  have : op = 0 ∨ op = 1 ∨ op = 2 ∨ op = 3 ∨ op = 4 ∨ op = 5 ∨ op = 6 ∨ op = 7 ∨ op = 8 ∨ op = 9 ∨ op = 10 ∨ op = 11 ∨ op = 12 ∨ op = 13 ∨ op = 14 ∨ op = 15 ∨ op = 16 ∨ op = 17 ∨ op = 18 ∨ op = 19 := by omega
  rcases this with rfl | rfl | rfl | rfl | rfl | rfl | rfl | rfl | rfl | rfl | rfl | rfl | rfl | rfl | rfl | rfl | rfl | rfl | rfl | rfl <;> assumption

/-- Is one bit set? -/
def bt (r : Int) (i : Nat) : Bool := bits .and .i64 r (2 ^ i) != 0
/-- The register that is written. -/
def wrN (x : Is) : Int := if (rwOf x.op).writes then x.a else -1
/-- The registers that are read. -/
def argL (b : Int) (p : Int) : List Int := (List.range (min p 8).toNat).map fun (i : Nat) => wrap64 (b + (i : Int))
def fldL (x : Is) : List Int := (if bt (rwOf x.op).reads 0 then [x.a] else []) ++ (if bt (rwOf x.op).reads 1 then [x.b] else []) ++ (if bt (rwOf x.op).reads 2 then [x.c] else [])
def rdL (x : Is) (p : Int) : List Int := if x.op = 19 then argL x.b p else fldL x

/-- May a text be the name of a module's function? -/
def idB (l : List UInt8) : Bool := match l with | [] => false | c :: _ => decide (l.length ≤ 16) && isLet c && decide (rowLen isLod l = l.length)

/-- Where a name stands first. -/
def fndN : List Fn → ByteArray → Nat → Int
  | [], _, _ => -1
  | f :: r, s, i => if f.name.toList == s.toList then i else fndN r s (i + 1)
theorem fndN_drop {l : List Fn} {s : ByteArray} {j : Nat} (h : j < l.length) : fndN (l.drop j) s j = if l[j].name.toList == s.toList then (j : Int) else fndN (l.drop (j + 1)) s (j + 1) := by
  rw [List.drop_eq_getElem_cons h, fndN]

/-- Do thresholds rise? -/
def riseN : List Int → Nat → Option Nat
  | a :: b :: r, i => if b ≤ a then some (i + 1) else riseN (b :: r) (i + 1)
  | _, _ => none
/-- Which span is empty first? -/
def emptN : List Sp → Nat → Option Nat
  | [], _ => none
  | s :: r, i => if s.1 > s.2 then some i else emptN r (i + 1)
theorem emptN_drop {l : List Sp} {j : Nat} (h : j < l.length) : emptN (l.drop j) j = if l[j].1 > l[j].2 then some j else emptN (l.drop (j + 1)) (j + 1) := by
  rw [List.drop_eq_getElem_cons h, emptN]

/-- What is wrong with a function as a whole: the error and its place. -/
def headZ (m : Mo) (f : Fn) (k : Nat) : Int × Int :=
  if idB f.name.data.toList = false then (8, 0) else if fndN m.funcs f.name 0 < k then (9, 0) else if f.params.length > 8 then (3, 8) else
  match emptN f.params 0 with
  | some i => (40, i)
  | none => if f.regs < 1 ∨ f.regs > 64 ∨ f.regs < f.params.length then (95, 0) else if f.words < 0 ∨ f.words > 4096 then (96, 0) else if f.code.length < 1 ∨ f.code.length > 1024 then (97, 0) else (0, 0)
/-- What is wrong with a field. -/
def regZ (has : Bool) (r regs : Int) : Int := if has then (if r < 0 ∨ r ≥ regs then 61 else 0) else if r ≠ 0 then 62 else 0
/-- How many parameters the function of a number has. -/
def parN (m : Mo) (n : Int) : Int := match m.funcs[n.toNat]? with | some f => f.params.length | none => 0
/-- What is wrong with the number of an instruction. -/
def numZ (m : Mo) (f : Fn) (x : Is) : Int :=
  if (rwOf x.op).n = 0 then (if x.n ≠ 0 then 62 else 0)
  else if (rwOf x.op).n = 2 then (if x.n < 1 ∨ x.n > 4096 then 2 else 0)
  else if (rwOf x.op).n = 3 then (if x.n < 0 ∨ x.n ≥ f.code.length then 63 else 0)
  else if (rwOf x.op).n = 4 then (if x.n < 0 ∨ x.n ≥ m.funcs.length ∨ wrap64 (x.b + parN m x.n) > f.regs then 65 else 0)
  else 0
/-- What is wrong with an instruction. -/
def insZ (m : Mo) (f : Fn) (x : Is) : Int :=
  if knB x.op = false then 60 else
  if regZ (bt (rwOf x.op).regs 0) x.a f.regs ≠ 0 then regZ (bt (rwOf x.op).regs 0) x.a f.regs else
  if regZ (bt (rwOf x.op).regs 1) x.b f.regs ≠ 0 then regZ (bt (rwOf x.op).regs 1) x.b f.regs else
  if regZ (bt (rwOf x.op).regs 2) x.c f.regs ≠ 0 then regZ (bt (rwOf x.op).regs 2) x.c f.regs else numZ m f x
/-- What is wrong with the instructions of a function first, from one on; 0: nothing. -/
def codeN (m : Mo) (f : Fn) : List Is → Nat → Int × Int
  | [], _ => (0, 0)
  | x :: r, i => if insZ m f x ≠ 0 then (insZ m f x, i) else codeN m f r (i + 1)
theorem codeN_drop {m : Mo} {f : Fn} {l : List Is} {j : Nat} (h : j < l.length) : codeN m f (l.drop j) j = if insZ m f l[j] ≠ 0 then (insZ m f l[j], (j : Int)) else codeN m f (l.drop (j + 1)) (j + 1) := by
  rw [List.drop_eq_getElem_cons h, codeN]
def lastOp (f : Fn) : Int := match f.code[f.code.length - 1]? with | some x => x.op | none => 0
def codeZ (m : Mo) (f : Fn) : Int × Int :=
  if (codeN m f f.code 0).1 ≠ 0 then codeN m f f.code 0 else if lastOp f = 0 ∨ lastOp f = 14 ∨ lastOp f = 18 then (0, 0) else (64, (f.code.length : Int) - 1)
def headsN (m : Mo) : List Fn → Nat → Int × Int × Int
  | [], _ => (0, 0, 0)
  | f :: r, i => if (headZ m f i).1 ≠ 0 then ((headZ m f i).1, (i : Int), (headZ m f i).2) else headsN m r (i + 1)
theorem headsN_drop {m : Mo} {l : List Fn} {j : Nat} (h : j < l.length) : headsN m (l.drop j) j = if (headZ m l[j] j).1 ≠ 0 then ((headZ m l[j] j).1, (j : Int), (headZ m l[j] j).2) else headsN m (l.drop (j + 1)) (j + 1) := by
  rw [List.drop_eq_getElem_cons h, headsN]
def codesN (m : Mo) : List Fn → Nat → Int × Int × Int
  | [], _ => (0, 0, 0)
  | f :: r, i => if (codeZ m f).1 ≠ 0 then ((codeZ m f).1, (i : Int), (codeZ m f).2) else codesN m r (i + 1)
theorem codesN_drop {m : Mo} {l : List Fn} {j : Nat} (h : j < l.length) : codesN m (l.drop j) j = if (codeZ m l[j]).1 ≠ 0 then ((codeZ m l[j]).1, (j : Int), (codeZ m l[j]).2) else codesN m (l.drop (j + 1)) (j + 1) := by
  rw [List.drop_eq_getElem_cons h, codesN]
def wholeZ (m : Mo) : Int × Int × Int :=
  if m.ths.length > 16 then (3, 0, 16) else
  match riseN m.ths 0 with
  | some i => (66, 0, i)
  | none => if m.funcs.length > 32 then (3, 32, 0) else (0, 0, 0)
/-- What is wrong with a module first. -/
def mayZ (m : Mo) : Int × Int × Int :=
  if (wholeZ m).1 ≠ 0 then wholeZ m else if (headsN m m.funcs 0).1 ≠ 0 then headsN m m.funcs 0 else codesN m m.funcs 0
def fltV (z : Int × Int × Int) : Value := .agg #[.int .i64 z.1, .int .i64 z.2.1, .int .i64 z.2.2]

/-- Are they the same? -/
def samI : List Int → List Int → Bool
  | [], [] => true
  | x :: l, y :: t => x == y && samI l t
  | _, _ => false
def samP (x y : Sp) : Bool := x.1 == y.1 && x.2 == y.2
def samPs : List Sp → List Sp → Bool
  | [], [] => true
  | x :: l, y :: t => samP x y && samPs l t
  | _, _ => false
def samX (x y : Is) : Bool := x.op == y.op && (x.a == y.a && (x.b == y.b && (x.c == y.c && x.n == y.n)))
def samXs : List Is → List Is → Bool
  | [], [] => true
  | x :: l, y :: t => samX x y && samXs l t
  | _, _ => false
def samF (x y : Fn) : Bool := x.name.toList == y.name.toList && (x.regs == y.regs && (x.words == y.words && (samPs x.params y.params && samXs x.code y.code)))
def samFs : List Fn → List Fn → Bool
  | [], [] => true
  | x :: l, y :: t => samF x y && samFs l t
  | _, _ => false
def samM (p q : Mo) : Bool := samI p.ths q.ths && samFs p.funcs q.funcs
theorem samI_drop {l t : List Int} {j : Nat} (h : j < l.length) (h' : j < t.length) : samI (l.drop j) (t.drop j) = (l[j] == t[j] && samI (l.drop (j + 1)) (t.drop (j + 1))) := by
  rw [List.drop_eq_getElem_cons h, List.drop_eq_getElem_cons h', samI]
theorem samI_len : ∀ {l t : List Int}, l.length ≠ t.length → samI l t = false
  | [], [], h => by simp at h
  | [], _ :: _, _ => rfl
  | _ :: _, [], _ => rfl
  | x :: l, y :: t, h => by rw [samI, samI_len (by simpa using h), Bool.and_false]
theorem samPs_drop {l t : List Sp} {j : Nat} (h : j < l.length) (h' : j < t.length) : samPs (l.drop j) (t.drop j) = (samP l[j] t[j] && samPs (l.drop (j + 1)) (t.drop (j + 1))) := by
  rw [List.drop_eq_getElem_cons h, List.drop_eq_getElem_cons h', samPs]
theorem samPs_len : ∀ {l t : List Sp}, l.length ≠ t.length → samPs l t = false
  | [], [], h => by simp at h
  | [], _ :: _, _ => rfl
  | _ :: _, [], _ => rfl
  | x :: l, y :: t, h => by rw [samPs, samPs_len (by simpa using h), Bool.and_false]
theorem samXs_drop {l t : List Is} {j : Nat} (h : j < l.length) (h' : j < t.length) : samXs (l.drop j) (t.drop j) = (samX l[j] t[j] && samXs (l.drop (j + 1)) (t.drop (j + 1))) := by
  rw [List.drop_eq_getElem_cons h, List.drop_eq_getElem_cons h', samXs]
theorem samXs_len : ∀ {l t : List Is}, l.length ≠ t.length → samXs l t = false
  | [], [], h => by simp at h
  | [], _ :: _, _ => rfl
  | _ :: _, [], _ => rfl
  | x :: l, y :: t, h => by rw [samXs, samXs_len (by simpa using h), Bool.and_false]
theorem samFs_drop {l t : List Fn} {j : Nat} (h : j < l.length) (h' : j < t.length) : samFs (l.drop j) (t.drop j) = (samF l[j] t[j] && samFs (l.drop (j + 1)) (t.drop (j + 1))) := by
  rw [List.drop_eq_getElem_cons h, List.drop_eq_getElem_cons h', samFs]
theorem samFs_len : ∀ {l t : List Fn}, l.length ≠ t.length → samFs l t = false
  | [], [], h => by simp at h
  | [], _ :: _, _ => rfl
  | _ :: _, [], _ => rfl
  | x :: l, y :: t, h => by rw [samFs, samFs_len (by simpa using h), Bool.and_false]
end Go.Proofs.YtlkoigdnakmdlaaDoor

/- The program's table; what is told of an operation. -/
namespace Go.Proofs.YtlkoigdnakmdlaaDoor
open Go.RowKit Go.Sort

/-- The world holds the table. -/
def Tab (w : World) : Prop := ∀ k, k < 20 → w.cell? ⟨0, k * 6, none⟩ = some (.string (rwN k).word) ∧ w.cell? ⟨0, k * 6 + 1, none⟩ = some (.int .i64 (rwN k).weight) ∧ w.cell? ⟨0, k * 6 + 2, none⟩ = some (.int .i64 (rwN k).regs) ∧
  w.cell? ⟨0, k * 6 + 3, none⟩ = some (.int .i64 (rwN k).reads) ∧ w.cell? ⟨0, k * 6 + 4, none⟩ = some (.bool (rwN k).writes) ∧ w.cell? ⟨0, k * 6 + 5, none⟩ = some (.int .i64 (rwN k).n)
theorem Tab.stay {w w' : World} (hb : Below w.heap.size w w') (h : Tab w) : Tab w' := by
  have k1 : ∀ {p : Addr} {v : Value}, w.cell? p = some v → w'.cell? p = some v := fun h => (hb.cell (lt_of_cell h)).trans h
  intro k hk
  obtain ⟨h0, h1, h2, h3, h4, h5⟩ := h k hk
  exact ⟨k1 h0, k1 h1, k1 h2, k1 h3, k1 h4, k1 h5⟩

set_option maxHeartbeats 400000 in
theorem known_any (op : Int) (w : World) : Calls Tryd.prog 10 #[.int .i64 op] w fun e w' => e = .returned (.bool (knB op)) ∧ w' = w := by
  by_cases h : 0 ≤ op
  all_goals
    go_enter Tryd.func10, Tryd.ntmps10
    go_wp2
    go_ret
    exact ⟨ret_bool (by simp [knB]; try omega), rfl⟩

set_option maxHeartbeats 1000000 in
theorem rowOf_any (op : Int) (w : World) (ht : Tab w) : Calls Tryd.prog 28 #[.int .i64 op] w fun e w' => e = .returned (rwOf op).val ∧ Below w.heap.size w w' := by
  have hb := fun (o1 : Obj) => (Below.one (Below.refl _ w) o1 : Below w.heap.size w _)
  by_cases h : 0 ≤ op ∧ op ≤ 19
  · obtain ⟨k, rfl⟩ : ∃ k : Nat, op = k := ⟨op.toNat, by omega⟩
    have hk : k < 20 := by omega
    rw [rwOf_nat hk]
    have HK : Hid (∀ w, Calls Tryd.prog 10 #[.int .i64 (k : Int)] w fun e w' => e = .returned (.bool true) ∧ w' = w) := fun w => by
      have := known_any k w
      rwa [show knB k = true by simp [knB]; omega] at this
    obtain ⟨h0, h1, h2, h3, h4, h5⟩ := (ht.stay (hb (.cells #[.string ⟨#[]⟩, .int .i64 0, .int .i64 0, .int .i64 0, .bool false, .int .i64 0] 52))) k hk
    have hg : w.heap.size ≠ 0 := by have := lt_of_cell (ht 0 (by omega)).1; simp only at this; omega
    generalize rwN k = r at *
    clear ht h
    unfold Rw.val
    go_enter Tryd.func28, Tryd.ntmps28
    go_wp2_with (go_at_call 10; refine (HK.out _).mono ?_; rintro e w1 ⟨rfl, rfl⟩)
    exact bodyPost_ret (v := r.val) (by simp [results, Tryd.results28, go_sem, Rw.val, *]) rfl ⟨rfl, hb _⟩
  · have HK : Hid (∀ w, Calls Tryd.prog 10 #[.int .i64 op] w fun e w' => e = .returned (.bool false) ∧ w' = w) := fun w => by
      have := known_any op w
      rwa [show knB op = false by simp [knB]; omega] at this
    rw [rwOf_no h]
    clear ht h
    go_enter Tryd.func28, Tryd.ntmps28
    go_wp2_with (go_at_call 10; refine (HK.out _).mono ?_; rintro e w1 ⟨rfl, rfl⟩)
    exact bodyPost_ret (v := (Rw.val ⟨⟨#[]⟩, 0, 0, 0, false, 0⟩)) (by simp [results, Tryd.results28, go_sem, Rw.val, *]) rfl ⟨rfl, hb _⟩

theorem fld_row0 (w : World) (s : ByteArray) (a b c : Int) (d : Bool) (n : Int) : (Instr.field 52 (.agg #[.string s, .int .i64 a, .int .i64 b, .int .i64 c, .bool d, .int .i64 n]) 0).run Tryd.prog w = .ok (.string s) w := by kernel_rfl
theorem fld_row1 (w : World) (s : ByteArray) (a b c : Int) (d : Bool) (n : Int) : (Instr.field 52 (.agg #[.string s, .int .i64 a, .int .i64 b, .int .i64 c, .bool d, .int .i64 n]) 1).run Tryd.prog w = .ok (.int .i64 a) w := by kernel_rfl
theorem fld_row2 (w : World) (s : ByteArray) (a b c : Int) (d : Bool) (n : Int) : (Instr.field 52 (.agg #[.string s, .int .i64 a, .int .i64 b, .int .i64 c, .bool d, .int .i64 n]) 2).run Tryd.prog w = .ok (.int .i64 b) w := by kernel_rfl
theorem fld_row3 (w : World) (s : ByteArray) (a b c : Int) (d : Bool) (n : Int) : (Instr.field 52 (.agg #[.string s, .int .i64 a, .int .i64 b, .int .i64 c, .bool d, .int .i64 n]) 3).run Tryd.prog w = .ok (.int .i64 c) w := by kernel_rfl
theorem fld_row4 (w : World) (s : ByteArray) (a b c : Int) (d : Bool) (n : Int) : (Instr.field 52 (.agg #[.string s, .int .i64 a, .int .i64 b, .int .i64 c, .bool d, .int .i64 n]) 4).run Tryd.prog w = .ok (.bool d) w := by kernel_rfl
theorem fld_row5 (w : World) (s : ByteArray) (a b c : Int) (d : Bool) (n : Int) : (Instr.field 52 (.agg #[.string s, .int .i64 a, .int .i64 b, .int .i64 c, .bool d, .int .i64 n]) 5).run Tryd.prog w = .ok (.int .i64 n) w := by kernel_rfl
theorem weight_any (op : Int) (w : World) (ht : Tab w) : Calls Tryd.prog 12 #[.int .i64 op] w fun e w' => e = .returned (.int .i64 (rwOf op).weight) ∧ Below w.heap.size w w' := by
  have HR := Hid.mk' (rowOf_any op w ht)
  unfold Rw.val at HR
  have hf := fld_row1
  go_enter Tryd.func12, Tryd.ntmps12
  go_wp2_with (go_at_call 28; refine HR.out.mono ?_; rintro e w1 ⟨rfl, hb1⟩)
  go_ret
  exact ⟨rfl, hb1⟩
theorem word_of (op : Int) (w : World) (ht : Tab w) : Calls Tryd.prog 14 #[.int .i64 op] w fun e w' => e = .returned (.string (rwOf op).word) ∧ Below w.heap.size w w' := by
  have HR := Hid.mk' (rowOf_any op w ht)
  unfold Rw.val at HR
  have hf := fld_row0
  go_enter Tryd.func14, Tryd.ntmps14
  go_wp2_with (go_at_call 28; refine HR.out.mono ?_; rintro e w1 ⟨rfl, hb1⟩)
  go_ret
  exact ⟨rfl, hb1⟩
theorem _root_.Go.RowKit.Below.drewN {B : Nat} {w w' : World} (h : Below B w w') (n : Nat) : Below B w (w'.drewN n) := h.trans ⟨rfl, rfl, rfl, Nat.le_refl _, fun _ _ => rfl⟩
theorem cell_kept_below {W W' : World} {p : Addr} {v : Value} (h : W.cell? p = some v) (hb : Below W.heap.size W W') : W'.cell? p = some v := (hb.cell (lt_of_cell h)).trans h
theorem new_cell (w : World) (cs : Array Value) (t : TypeId) (j : Nat) (v : Value) (h : cs[j]? = some v) : (w.alloc (.cells cs t)).cell? ⟨w.heap.size, j, none⟩ = some v := (World.cell?_alloc_at cs t _ _ rfl).trans h
set_option maxHeartbeats 1000000 in
theorem writes_any (x : Is) (w : World) (ht : Tab w) : Calls Tryd.prog 16 #[x.val] w fun e w' => e = .returned (.int .i64 (wrN x)) ∧ Below w.heap.size w w' := by
  have hb := fun (o1 : Obj) => (Below.one (Below.refl _ w) o1 : Below w.heap.size w _)
  have HR := Hid.mk' fun o => rowOf_any x.op _ (ht.stay (hb o))
  have HW : Hid (wrN x = if (rwOf x.op).writes then x.a else -1) := (rfl : wrN x = _)
  unfold Rw.val at HR
  generalize rwOf x.op = r at *
  generalize wrN x = z at *
  have ca := new_cell w #[.int .i64 x.op, .int .i64 x.a, .int .i64 x.b, .int .i64 x.c, .int .i64 x.n] 27 1 _ rfl
  unfold Is.val
  have hf := fld_row4
  obtain ⟨r0, r1, r2, r3, r4, r5⟩ := r
  simp only at HR HW
  have e := HW.out
  clear HW
  cases r4
  · simp only [if_false, Bool.false_eq_true] at e
    subst e
    go_enter Tryd.func16, Tryd.ntmps16
    go_wp2_with (go_at_call 28; refine (HR.out _).mono ?_; rintro e w1 ⟨rfl, hb1⟩; have cb := cell_kept_below ca hb1; have hbb := Below.on (hb _) hb1)
    go_ret
    exact ⟨rfl, hbb⟩
  · simp only [if_true] at e
    subst e
    go_enter Tryd.func16, Tryd.ntmps16
    go_wp2_with (go_at_call 28; refine (HR.out _).mono ?_; rintro e w1 ⟨rfl, hb1⟩; have cb := cell_kept_below ca hb1; have hbb := Below.on (hb _) hb1)
    go_ret
    exact ⟨rfl, hbb⟩
set_option maxHeartbeats 1000000 in
theorem fields_any (x : Is) (w : World) : Calls Tryd.prog 43 #[x.val] w fun e w' => e = .returned (.agg #[.int .i64 x.a, .int .i64 x.b, .int .i64 x.c]) ∧ Below w.heap.size w w' := by
  have hb := fun (o1 o2 : Obj) => (Below.one (Below.one (Below.refl _ w) o1) o2 : Below w.heap.size w _)
  unfold Is.val
  go_enter Tryd.func43, Tryd.ntmps43
  go_wp2
  exact bodyPost_ret (v := .agg #[.int .i64 x.a, .int .i64 x.b, .int .i64 x.c]) (by simp [results, Tryd.results43, go_sem]) rfl ⟨rfl, hb _ _⟩
end Go.Proofs.YtlkoigdnakmdlaaDoor

/- What every card of this seat shares: a start at which the listed variable holds what the program's text lays, and what its list says of the table; modules, instructions, texts opened. -/
namespace Go.Proofs.YtlkoigdnakmdlaaDoor
open Go.ChangeShapes Go.WideShapes Go.ChangeAt Go.RowKit

instance : Inhabited Is := ⟨⟨0, 0, 0, 0, 0⟩⟩
instance : Inhabited Fn := ⟨⟨⟨#[]⟩, none, 0, [], 0, 0, none, 0, []⟩⟩
theorem ownK : ownKnob Tryd.prog.godebug = none := by kernel_rfl
theorem laidOutT : laidOutB Tryd.prog = true := by kernel_rfl
/-- A block's cells, its tag and its frozen range kept. -/
def putCells (c : Array Value) : Obj → Obj
  | .cells _ t fz => .cells c t fz
  | o => o
def tabC : Array Value := ((List.range 20).flatMap fun k => (rwN k).cells).toArray
def laidOf (w : World) : World := { w with heap := w.heap.modify 0 (putCells tabC) }

theorem spot_none {w : World} {a : Addr} {v : Value} (h : w.cell? a = some v) : a = ⟨a.block, a.off, none⟩ := by
  obtain ⟨b, o, s⟩ := a
  cases s with
  | none => rfl
  | some s =>
    unfold World.cell? at h
    split at h <;> simp at h

theorem add_spot {a : Addr} {n j : Nat} {w : World} {v : Value} (h : w.cell? ((a.add n).add j) = some v) (h0 : a.spot = none) : w.cell? ⟨a.block, a.off + (n + j), none⟩ = some v := by
  have e : (a.add n).add j = ⟨a.block, a.off + (n + j), none⟩ := by
    rw [Go.Deep.add_add]
    unfold Addr.add
    obtain ⟨b, o, s⟩ := a
    simp only at h0
    subst h0
    split
    · rename_i h; simp [h]
    · rfl
  rw [← e]; exact h

def Small {H : Type} (P : Program) (t : TypeId) (d : DataW H) : Prop := ∀ z ∈ d.weights P t, z ≤ 140737488351232

theorem weightsAll_mem {H : Type} {P : Program} {e : TypeId} {l : List (DataW H)} {d : DataW H} (h : d ∈ l) {z : Nat} (hz : z ∈ d.weights P e) : z ∈ DataW.weightsAll P e l := by
  induction l with
  | nil => cases h
  | cons y r ih =>
    rw [DataW.weightsAll, List.mem_append]
    rcases List.mem_cons.1 h with rfl | h
    · exact Or.inl hz
    · exact Or.inr (ih h)
theorem weightsEach_mem {H : Type} {P : Program} : ∀ {ts : List TypeId} {ds : List (DataW H)} {i : Nat} {t : TypeId} {d : DataW H}, ts[i]? = some t → ds[i]? = some d → ∀ {z : Nat}, z ∈ d.weights P t → z ∈ DataW.weightsEach P ts ds
  | [], _, _, _, _, h, _, _, _ => by simp at h
  | _ :: _, [], _, _, _, _, h, _, _ => by simp at h
  | t :: ts, d :: ds, 0, _, _, h1, h2, z, hz => by
    simp at h1 h2; subst h1 h2
    rw [DataW.weightsEach, List.mem_append]; exact Or.inl hz
  | t :: ts, d :: ds, i + 1, _, _, h1, h2, z, hz => by
    rw [DataW.weightsEach, List.mem_append]
    exact Or.inr (weightsEach_mem (ts := ts) (ds := ds) (i := i) (by simpa using h1) (by simpa using h2) hz)

/-- A field of a struct: what it reads as, and that it is small. -/
theorem open_field {H : Type} {enc : TypeId × Value → H} {P : Program} {w : World} {held : Bool} {t : TypeId} {fs : Array Field} {fuel : Nat} {cs : List Value} {x : DataW H × List MemPlace}
    (ht : P.underlying t = some (.struct fs)) (h : DataW.trod enc P w 0 (fun _ => true) held fuel t cs = some x) (hs : Small P t x.1) :
    ∃ n, fuel = n + 1 ∧ cs.length = P.cellsOf t ∧ ∀ (i : Nat) (f : Field), fs[i]? = some f → ∃ y, DataW.trod enc P w 0 (fun _ => true) held n f.type ((cs.drop f.offset).take (P.cellsOf f.type)) = some y ∧ Small P f.type y.1 := by
  obtain ⟨xs, n, hn, rfl, hl, hlen, hf⟩ := DataW.trod_struct ht h
  refine ⟨n, hn, hl, fun i f hi => ?_⟩
  have hlt : i < xs.length := by rw [hlen]; exact (Array.getElem?_eq_some_iff.1 hi).1
  refine ⟨xs[i], ?_, fun z hz => hs z ?_⟩
  · rw [hf i f hi, List.getElem?_eq_getElem hlt]
  · rw [DataW.weights]; simp only [ht]
    refine weightsEach_mem (i := i) (t := f.type) (d := xs[i].1) ?_ ?_ hz
    · simp [hi]
    · simp [List.getElem?_eq_getElem hlt]

/-- A list of whatever elements. -/
theorem open_rows {H : Type} {enc : TypeId × Value → H} {P : Program} {w : World} {held : Bool} {t e : TypeId} {k B fuel : Nat} {cs : List Value} {x : DataW H × List MemPlace} {α : Type} [Inhabited α] {cells : α → List Value} {In : α → Prop}
    (ht : P.underlying t = some (.slice e)) (hk : P.cellsOf e = k) (hk0 : 0 < k) (hB : P.bytesOf e = B)
    (el : ∀ m cs y, m < fuel → DataW.trod enc P w 0 (fun _ => true) held m e cs = some y → Small P e y.1 → ∃ z : α, cs = cells z ∧ In z)
    (h : DataW.trod enc P w 0 (fun _ => true) held fuel t cs = some x) (hs : Small P t x.1) :
    ∃ (a : Option Addr) (c : Nat) (l : List α), cs = [.slice a l.length c] ∧ l.length ≤ c ∧ c * B ≤ 140737488351232 ∧ (a = none → c = 0) ∧ RowIn w a k (l.map cells) ∧ ∀ y ∈ l, In y := by
  rcases DataW.trod_slice ht h with ⟨rfl, rfl⟩ | ⟨a, len, cap, elems, rest, n, hn, rfl, rfl, _, hl, _, hlen, hel, hsp, _⟩
  · exact ⟨none, 0, [], rfl, Nat.le_refl _, by simp, fun _ => rfl, fun i cs h => by simp at h, by simp⟩
  · have hw : ∀ z, z ∈ ((elems.map (·.1)).length + (rest.map (·.1)).length) * P.bytesOf e :: (DataW.weightsAll P e (elems.map (·.1)) ++ DataW.weightsAll P e (rest.map (·.1))) → z ≤ 140737488351232 := fun z hz => hs z (by rw [DataW.weights]; simp only [ht]; exact hz)
    obtain ⟨hr, _⟩ := hsp rfl
    have hcap := hw _ (List.mem_cons_self ..)
    rw [List.length_map, List.length_map, hlen, hr, show len + (cap - len) = cap by omega, hB] at hcap
    have hone : ∀ i, i < len → ∃ z : α, w.cells? 0 (a.add (i * k)) k = some (cells z) ∧ In z := fun i hi => by
      have h1 := hel i hi
      rw [hk, List.getElem?_eq_getElem (by omega)] at h1
      obtain ⟨cs', h2, h3⟩ := Option.bind_eq_some_iff.1 h1
      obtain ⟨z, rfl, hz⟩ := el n cs' _ (by omega) h3 (fun z hz => hw z (List.mem_cons_of_mem _ (List.mem_append_left _ (weightsAll_mem (List.mem_map_of_mem (List.getElem_mem _)) hz))))
      exact ⟨z, h2, hz⟩
    obtain ⟨f, hf⟩ := Go.Deep.choose_lt hone
    refine ⟨some a, cap, (List.range len).map f, by simp, by simpa using hl, hcap, fun h => by simp at h, fun i cs hi => ?_, fun y hy => ?_⟩
    · rw [List.getElem?_map, List.getElem?_map, Option.map_map, Option.map_eq_some_iff] at hi
      obtain ⟨i', hi', rfl⟩ := hi
      obtain ⟨hlt, rfl⟩ := List.getElem?_eq_some_iff.1 hi'
      simp only [List.length_range] at hlt
      obtain ⟨h1, _⟩ := hf i hlt
      obtain ⟨_, hcl, hc⟩ := World.cells?_some h1
      obtain ⟨h01, _⟩ := hf 0 (by omega)
      obtain ⟨_, hcl0, hc0⟩ := World.cells?_some h01
      have hsp : a.spot = none := by
        have := hc0 0 hk0
        rw [List.getElem?_eq_getElem (by omega)] at this
        have := spot_none this
        simp [Addr.add] at this
        rw [this]
      refine ⟨a.block, a.off, by rw [show (⟨a.block, a.off, none⟩ : Addr) = a by obtain ⟨b, o, s⟩ := a; simp_all], fun j v hj => ?_⟩
      simp only [List.getElem_range, Function.comp] at hj ⊢
      have hjl := (List.getElem?_eq_some_iff.1 hj).1
      exact add_spot ((hc j (by omega)).trans hj) hsp
    · obtain ⟨i, hi, rfl⟩ := List.mem_map.1 hy
      exact (hf i (by simpa using hi)).2

theorem i64_of {n : Int} (h : (Lit.int .i64 n).wf = true) : I64 n := by
  simpa [Lit.wf, I64, IntKind.min, IntKind.max, IntKind.signed, IntKind.bits] using h
theorem gTab : Tryd.prog.globalNamed "soffit/code.table" = some 0 := by kernel_rfl
theorem gTabT : (Tryd.prog.globals[0]?).map (·.type) = some 68 := by kernel_rfl
theorem cRow : Tryd.prog.cellsOf 52 = 6 := by kernel_rfl
theorem cInt : Tryd.prog.cellsOf 3 = 1 := by kernel_rfl
theorem cI64 : Tryd.prog.cellsOf 2 = 1 := by kernel_rfl
theorem cStr : Tryd.prog.cellsOf 9 = 1 := by kernel_rfl
theorem cBool : Tryd.prog.cellsOf 4 = 1 := by kernel_rfl
theorem cSpan : Tryd.prog.cellsOf 71 = 2 := by kernel_rfl
theorem cIns : Tryd.prog.cellsOf 27 = 5 := by kernel_rfl
theorem cFunc : Tryd.prog.cellsOf 46 = 5 := by kernel_rfl
theorem cMod : Tryd.prog.cellsOf 33 = 2 := by kernel_rfl
theorem cLi : Tryd.prog.cellsOf 30 = 1 := by kernel_rfl
theorem cLp : Tryd.prog.cellsOf 43 = 1 := by kernel_rfl
theorem cLx : Tryd.prog.cellsOf 44 = 1 := by kernel_rfl
theorem cLf : Tryd.prog.cellsOf 31 = 1 := by kernel_rfl
theorem bI64 : Tryd.prog.bytesOf 2 = 8 := by kernel_rfl
theorem bSpan : Tryd.prog.bytesOf 71 = 16 := by kernel_rfl
theorem bIns : Tryd.prog.bytesOf 27 = 40 := by kernel_rfl
theorem bFunc : Tryd.prog.bytesOf 46 = 80 := by kernel_rfl
/-- A row of the table, as the list has it. -/
def rowD (k : Nat) : DataW Unit := .agg [.lit (.string (rwN k).word.data.toList), .lit (.int .i64 (rwN k).weight), .lit (.int .i64 (rwN k).regs), .lit (.int .i64 (rwN k).reads), .lit (.bool (rwN k).writes), .lit (.int .i64 (rwN k).n)]
theorem tab_laid : (Rows.laid_soffit_code_table : DataW Unit) = .agg ((List.range 20).map rowD) := by kernel_rfl
theorem arr_at {H : Type} {enc : TypeId × Value → H} {P : Program} {w : World} {base : Nat} {sp : Nat → Bool} {held : Bool} {fuel : Nat} {t e : TypeId} {n : Nat} {cs : List Value} {ds : List (DataW H)} {p : List MemPlace}
    (ht : P.underlying t = some (.array n e)) (h : DataW.trod enc P w base sp held fuel t cs = some (.agg ds, p)) :
    ∃ m, ∀ i d, ds[i]? = some d → ∃ q, DataW.trod enc P w base sp held m e ((cs.drop (i * P.cellsOf e)).take (P.cellsOf e)) = some (d, q) := by
  cases fuel with
  | zero => simp [DataW.trod] at h
  | succ fuel =>
    simp only [DataW.trod, ht] at h
    split at h
    · obtain ⟨xs, hm, hx⟩ := Option.map_eq_some_iff.1 h
      have hxs : xs.map (·.1) = ds := by
        have := congrArg Prod.fst hx
        simpa using this
      refine ⟨fuel, fun i d hd => ?_⟩
      rw [← hxs, List.getElem?_map, Option.map_eq_some_iff] at hd
      obtain ⟨y, hy, rfl⟩ := hd
      have hi : i < n := by
        have h1 := (List.getElem?_eq_some_iff.1 hy).1
        have h2 := Lib.mapM_length hm
        simp at h2; omega
      obtain ⟨b, hb, hf⟩ := Lib.mapM_at hm i i (by simp [hi])
      rw [hy] at hb
      cases hb
      exact ⟨_, hf⟩
    · cases h
theorem len6 : ∀ l : List Value, l.length = 6 → ∃ c0 c1 c2 c3 c4 c5, l = [c0, c1, c2, c3, c4, c5]
  | [c0, c1, c2, c3, c4, c5], _ => ⟨c0, c1, c2, c3, c4, c5, rfl⟩
theorem len5 : ∀ l : List Value, l.length = 5 → ∃ c0 c1 c2 c3 c4, l = [c0, c1, c2, c3, c4]
  | [c0, c1, c2, c3, c4], _ => ⟨c0, c1, c2, c3, c4, rfl⟩
theorem len2 : ∀ l : List Value, l.length = 2 → ∃ c0 c1, l = [c0, c1]
  | [c0, c1], _ => ⟨c0, c1, rfl⟩
theorem row_cells {H : Type} {enc : TypeId × Value → H} {w : World} {base : Nat} {sp : Nat → Bool} {held : Bool} {m : Nat} {cs : List Value} {s : List UInt8} {a b c n : Int} {d : Bool} {q : List MemPlace}
    (h : DataW.trod enc Tryd.prog w base sp held m 52 cs = some (.agg [.lit (.string s), .lit (.int .i64 a), .lit (.int .i64 b), .lit (.int .i64 c), .lit (.bool d), .lit (.int .i64 n)], q)) :
    cs = [.string ⟨s.toArray⟩, .int .i64 a, .int .i64 b, .int .i64 c, .bool d, .int .i64 n] := by
  obtain ⟨xs, k, _, hx, hl, hlen, hf⟩ := DataW.trod_struct Tryd.underlying52 h
  rw [cRow] at hl
  match xs, hlen with
  | [y0, y1, y2, y3, y4, y5], _ =>
      have f0 : DataW.trod enc Tryd.prog w base sp held k 9 ((cs.drop 0).take (Tryd.prog.cellsOf 9)) = some y0 := hf 0 _ rfl
      have f1 : DataW.trod enc Tryd.prog w base sp held k 2 ((cs.drop 1).take (Tryd.prog.cellsOf 2)) = some y1 := hf 1 _ rfl
      have f2 : DataW.trod enc Tryd.prog w base sp held k 3 ((cs.drop 2).take (Tryd.prog.cellsOf 3)) = some y2 := hf 2 _ rfl
      have f3 : DataW.trod enc Tryd.prog w base sp held k 3 ((cs.drop 3).take (Tryd.prog.cellsOf 3)) = some y3 := hf 3 _ rfl
      have f4 : DataW.trod enc Tryd.prog w base sp held k 4 ((cs.drop 4).take (Tryd.prog.cellsOf 4)) = some y4 := hf 4 _ rfl
      have f5 : DataW.trod enc Tryd.prog w base sp held k 3 ((cs.drop 5).take (Tryd.prog.cellsOf 3)) = some y5 := hf 5 _ rfl
      clear h hf
      obtain ⟨c0, c1, c2, c3, c4, c5, rfl⟩ := len6 cs hl
      rw [cStr] at f0
      rw [cI64] at f1
      rw [cInt] at f2 f3 f5
      rw [cBool] at f4
      obtain ⟨s0, e0, rfl, _⟩ := DataW.trod_string Tryd.underlying9 f0
      obtain ⟨n1, e1, rfl, _⟩ := DataW.trod_int Tryd.underlying2 f1
      obtain ⟨n2, e2, rfl, _⟩ := DataW.trod_int Tryd.underlying3 f2
      obtain ⟨n3, e3, rfl, _⟩ := DataW.trod_int Tryd.underlying3 f3
      obtain ⟨b4, e4, rfl⟩ := DataW.trod_bool Tryd.underlying4 f4
      obtain ⟨n5, e5, rfl, _⟩ := DataW.trod_int Tryd.underlying3 f5
      simp at e0 e1 e2 e3 e4 e5 hx
      obtain ⟨⟨rfl, rfl, rfl, rfl, rfl, rfl⟩, _⟩ := hx
      subst e0 e1 e2 e3 e4 e5
      rfl
theorem tab_of {W : World} (h : laidMetH Tryd.prog Rows.codeWordsRow.laid W) : Tab W := by
  have h1 : laidMet Tryd.prog Rows.codeWordsRow.laid W := h
  have h3 : laidMet Tryd.prog (("soffit/code.table", Rows.laid_soffit_code_table) :: _) W := h1
  rw [tab_laid] at h3
  intro k hk
  obtain ⟨ps, ⟨g', t', cs, fuel, p, q, hg', ht', hvar, hd, _, _⟩, _⟩ := h3
  obtain rfl := Option.some.inj (gTab.symm.trans hg')
  obtain rfl := Option.some.inj (gTabT.symm.trans ht')
  obtain ⟨m, hm⟩ := arr_at Tryd.underlying68 hd
  obtain ⟨q', hq⟩ := hm k (rowD k) (by simp [hk])
  rw [cRow] at hq
  have hc := row_cells hq
  have hcell : ∀ j v, j < 6 → ((cs.toList.drop (k * 6)).take 6)[j]? = some v → W.cell? ⟨0, k * 6 + j, none⟩ = some v := fun j v hj hv => by
    have := World.var?_cell gTab hvar (k * 6 + j)
    rw [List.getElem?_take, if_pos hj, List.getElem?_drop] at hv
    rw [this]; simpa using hv
  rw [hc] at hcell
  exact ⟨hcell 0 _ (by decide) rfl, hcell 1 _ (by decide) rfl, hcell 2 _ (by decide) rfl, hcell 3 _ (by decide) rfl, hcell 4 _ (by decide) rfl, hcell 5 _ (by decide) rfl⟩

section
variable {H : Type} {enc : TypeId × Value → H} {w : World} {held : Bool}
theorem open_i {t : TypeId} {n : Nat} {c : Value} {y : DataW H × List MemPlace} (ht : Tryd.prog.underlying t = some (.int .i64)) (h : DataW.trod enc Tryd.prog w 0 (fun _ => true) held n t [c] = some y) : ∃ z, c = .int .i64 z ∧ I64 z := by
  obtain ⟨z, e, _, hw⟩ := DataW.trod_int ht h
  exact ⟨z, by simpa using e, i64_of hw⟩
theorem open_s {t : TypeId} {n : Nat} {c : Value} {y : DataW H × List MemPlace} (ht : Tryd.prog.underlying t = some .string) (h : DataW.trod enc Tryd.prog w 0 (fun _ => true) held n t [c] = some y) (hs : Small Tryd.prog t y.1) : ∃ s : ByteArray, c = .string s ∧ s.size ≤ 140737488351232 := by
  obtain ⟨s, e, rfl, _⟩ := DataW.trod_string ht h
  refine ⟨s, by simpa using e, ?_⟩
  have := hs s.data.toList.length (by rw [DataW.weights]; exact List.mem_singleton.2 rfl)
  rw [Array.length_toList] at this
  exact this
theorem fld {fs : Array Field} {n : Nat} {cs : List Value} (hf : ∀ (i : Nat) (f : Field), fs[i]? = some f → ∃ y, DataW.trod enc Tryd.prog w 0 (fun _ => true) held n f.type ((cs.drop f.offset).take (Tryd.prog.cellsOf f.type)) = some y ∧ Small Tryd.prog f.type y.1)
    (i : Nat) {f : Field} (hi : fs[i]? = some f) {t : TypeId} {o k : Nat} {l : List Value} (ht : f.type = t) (ho : f.offset = o) (hk : Tryd.prog.cellsOf t = k) (e : (cs.drop o).take k = l) :
    ∃ y, DataW.trod enc Tryd.prog w 0 (fun _ => true) held n t l = some y ∧ Small Tryd.prog t y.1 := by
  have := hf i f hi
  rw [ht, ho, hk, e] at this
  exact this
theorem open_sp (fuel : Nat) (cs : List Value) (x : DataW H × List MemPlace) (h : DataW.trod enc Tryd.prog w 0 (fun _ => true) held fuel 71 cs = some x) (hs : Small Tryd.prog 71 x.1) : ∃ y : Sp, cs = spC y ∧ spOk y := by
  obtain ⟨n, rfl, hl, hf⟩ := open_field Tryd.underlying71 h hs
  rw [cSpan] at hl
  obtain ⟨c0, c1, rfl⟩ := len2 cs hl
  obtain ⟨y0, f0, s0⟩ := fld hf 0 rfl (t := 2) (o := 0) (l := [c0]) rfl rfl cI64 rfl
  obtain ⟨y1, f1, s1⟩ := fld hf 1 rfl (t := 2) (o := 1) (l := [c1]) rfl rfl cI64 rfl
  obtain ⟨a, rfl, ha⟩ := open_i Tryd.underlying2 f0
  obtain ⟨b, rfl, hb⟩ := open_i Tryd.underlying2 f1
  exact ⟨(a, b), rfl, ha, hb⟩
theorem open_is (fuel : Nat) (cs : List Value) (x : DataW H × List MemPlace) (h : DataW.trod enc Tryd.prog w 0 (fun _ => true) held fuel 27 cs = some x) (hs : Small Tryd.prog 27 x.1) : ∃ y : Is, cs = y.cells ∧ y.Ok := by
  obtain ⟨n, rfl, hl, hf⟩ := open_field Tryd.underlying27 h hs
  rw [cIns] at hl
  obtain ⟨c0, c1, c2, c3, c4, rfl⟩ := len5 cs hl
  obtain ⟨y0, f0, s0⟩ := fld hf 0 rfl (t := 3) (o := 0) (l := [c0]) rfl rfl cInt rfl
  obtain ⟨y1, f1, s1⟩ := fld hf 1 rfl (t := 3) (o := 1) (l := [c1]) rfl rfl cInt rfl
  obtain ⟨y2, f2, s2⟩ := fld hf 2 rfl (t := 3) (o := 2) (l := [c2]) rfl rfl cInt rfl
  obtain ⟨y3, f3, s3⟩ := fld hf 3 rfl (t := 3) (o := 3) (l := [c3]) rfl rfl cInt rfl
  obtain ⟨y4, f4, s4⟩ := fld hf 4 rfl (t := 2) (o := 4) (l := [c4]) rfl rfl cI64 rfl
  obtain ⟨a, rfl, ha⟩ := open_i Tryd.underlying3 f0
  obtain ⟨b, rfl, hb⟩ := open_i Tryd.underlying3 f1
  obtain ⟨c, rfl, hc⟩ := open_i Tryd.underlying3 f2
  obtain ⟨d, rfl, hd⟩ := open_i Tryd.underlying3 f3
  obtain ⟨e, rfl, he⟩ := open_i Tryd.underlying2 f4
  exact ⟨⟨a, b, c, d, e⟩, rfl, ha, hb, hc, hd, he⟩
theorem open_fn (fuel : Nat) (cs : List Value) (x : DataW H × List MemPlace) (h : DataW.trod enc Tryd.prog w 0 (fun _ => true) held fuel 46 cs = some x) (hs : Small Tryd.prog 46 x.1) : ∃ y : Fn, cs = y.cells ∧ y.In w := by
  obtain ⟨n, rfl, hl, hf⟩ := open_field Tryd.underlying46 h hs
  rw [cFunc] at hl
  obtain ⟨c0, c1, c2, c3, c4, rfl⟩ := len5 cs hl
  obtain ⟨y0, f0, s0⟩ := fld hf 0 rfl (t := 9) (o := 0) (l := [c0]) rfl rfl cStr rfl
  obtain ⟨y1, f1, s1⟩ := fld hf 1 rfl (t := 43) (o := 1) (l := [c1]) rfl rfl cLp rfl
  obtain ⟨y2, f2, s2⟩ := fld hf 2 rfl (t := 3) (o := 2) (l := [c2]) rfl rfl cInt rfl
  obtain ⟨y3, f3, s3⟩ := fld hf 3 rfl (t := 3) (o := 3) (l := [c3]) rfl rfl cInt rfl
  obtain ⟨y4, f4, s4⟩ := fld hf 4 rfl (t := 44) (o := 4) (l := [c4]) rfl rfl cLx rfl
  obtain ⟨s, rfl, hsz⟩ := open_s Tryd.underlying9 f0 s0
  obtain ⟨r, rfl, hr⟩ := open_i Tryd.underlying3 f2
  obtain ⟨u, rfl, hu⟩ := open_i Tryd.underlying3 f3
  obtain ⟨a1, k1, l1, e1, p1, p2, p3, p4, p5⟩ := open_rows (α := Sp) (cells := spC) (In := spOk) (k := 2) (B := 16) Tryd.underlying43 cSpan (by decide) bSpan (fun m cs y _ => open_sp m cs y) f1 s1
  obtain ⟨a2, k2, l2, e2, q1, q2, q3, q4, q5⟩ := open_rows (α := Is) (cells := Is.cells) (In := Is.Ok) (k := 5) (B := 40) Tryd.underlying44 cIns (by decide) bIns (fun m cs y _ => open_is m cs y) f4 s4
  obtain rfl : c1 = .slice a1 l1.length k1 := by simpa using e1
  obtain rfl : c4 = .slice a2 l2.length k2 := by simpa using e2
  exact ⟨⟨s, a1, k1, l1, r, u, a2, k2, l2⟩, rfl, hsz, hr, hu, ⟨by simp only; omega, p4⟩, p5, ⟨by simp only; omega, q4⟩, q5⟩
theorem open_mo (fuel : Nat) (cs : List Value) (x : DataW H × List MemPlace) (h : DataW.trod enc Tryd.prog w 0 (fun _ => true) held fuel 33 cs = some x) (hs : Small Tryd.prog 33 x.1) :
    ∃ y : Mo, cs = [.slice y.ta y.ths.length y.tc, .slice y.fa y.funcs.length y.fc] ∧ y.In w := by
  obtain ⟨n, rfl, hl, hf⟩ := open_field Tryd.underlying33 h hs
  rw [cMod] at hl
  obtain ⟨c0, c1, rfl⟩ := len2 cs hl
  obtain ⟨y0, f0, s0⟩ := fld hf 0 rfl (t := 30) (o := 0) (l := [c0]) rfl rfl cLi rfl
  obtain ⟨y1, f1, s1⟩ := fld hf 1 rfl (t := 31) (o := 1) (l := [c1]) rfl rfl cLf rfl
  obtain ⟨a1, k1, l1, e1, p1, p2, p3, p4, p5⟩ := open_rows (α := Int) (cells := thC) (In := I64) (k := 1) (B := 8) Tryd.underlying30 cI64 (by decide) bI64 (fun m cs y _ hy _ => by
    obtain ⟨z, e, _, hw⟩ := DataW.trod_int Tryd.underlying2 hy
    exact ⟨z, e, i64_of hw⟩) f0 s0
  obtain ⟨a2, k2, l2, e2, q1, q2, q3, q4, q5⟩ := open_rows (α := Fn) (cells := Fn.cells) (In := fun y : Fn => y.In w) (k := 5) (B := 80) Tryd.underlying31 cFunc (by decide) bFunc (fun m cs y _ => open_fn m cs y) f1 s1
  obtain rfl : c0 = .slice a1 l1.length k1 := by simpa using e1
  obtain rfl : c1 = .slice a2 l2.length k2 := by simpa using e2
  exact ⟨⟨a1, k1, l1, a2, k2, l2⟩, rfl, ⟨by simp only; omega, p4⟩, p5, ⟨by simp only; omega, q4⟩, q5⟩
end
/-- An argument that is a module; an instruction; a text. -/
theorem open_module {H : Type} {enc : TypeId × Value → H} {W : World} {base : Nat} {v : Value} {d : DataW H} {p : List MemPlace} (hv : Value.okWide Tryd.prog W .any base 33 v)
    (h : DataW.Trod enc Tryd.prog W 0 (fun _ => true) true 33 v d p) (hs : Small Tryd.prog 33 d) : ∃ y : Mo, v = y.val ∧ y.In W := by
  obtain ⟨cs, rfl, hsz⟩ := okWide_struct (P := Tryd.prog) (t := 33) (v := v) (r := .any) (base := base) (w := W) Tryd.underlying33 hv
  obtain ⟨fuel, hf⟩ := h
  obtain ⟨y, e, hy⟩ := open_mo fuel _ (d, p) hf hs
  refine ⟨y, ?_, hy⟩
  rw [Mo.val]
  congr 1
  have e' : cs.toList = [.slice y.ta y.ths.length y.tc, .slice y.fa y.funcs.length y.fc] := by simpa [Value.cells] using e
  rw [← Array.toList_inj, e']
theorem open_ins {H : Type} {enc : TypeId × Value → H} {W : World} {base : Nat} {v : Value} {d : DataW H} {p : List MemPlace} (hv : Value.okWide Tryd.prog W .any base 27 v)
    (h : DataW.Trod enc Tryd.prog W 0 (fun _ => true) true 27 v d p) (hs : Small Tryd.prog 27 d) : ∃ y : Is, v = y.val ∧ y.Ok := by
  obtain ⟨cs, rfl, hsz⟩ := okWide_struct (P := Tryd.prog) (t := 27) (v := v) (r := .any) (base := base) (w := W) Tryd.underlying27 hv
  obtain ⟨fuel, hf⟩ := h
  obtain ⟨y, e, hy⟩ := open_is fuel _ (d, p) hf hs
  refine ⟨y, ?_, hy⟩
  rw [Is.val]
  congr 1
  have e' : cs.toList = y.cells := by simpa [Value.cells] using e
  rw [← Array.toList_inj, e']
  rfl
end Go.Proofs.YtlkoigdnakmdlaaDoor

/- The function that code.arguments hands back: the registers of a call's arguments, in their order. -/
namespace Go.Proofs.YtlkoigdnakmdlaaDoor
open Go.RowKit Go.Shelf
attribute [local go_sem] Oper.semAt_some

abbrev encN (x : Int) : Array Value := #[.int .i64 x]
/-- What a round that goes on keeps: two boxes. -/
def KpB (B C : Nat) (W W' : World) : Prop := W.heap.size ≤ W'.heap.size ∧ W'.heap[B]? = W.heap[B]? ∧ W'.heap[C]? = W.heap[C]?
theorem kpB_t {B C : Nat} {X Y Z : World} (h : KpB B C X Y) (k : KpB B C Y Z) : KpB B C X Z := ⟨Nat.le_trans h.1 k.1, k.2.1.trans h.2.1, k.2.2.trans h.2.2⟩
theorem kpB_b {B C : Nat} {w : World} (hB : B < w.heap.size) (hC : C < w.heap.size) (W : World) (l : Nat) (o o' : Obj) (hl : w.heap.size ≤ l) (_ : W.heap[l]? = some o) (_ : o.isCells = false) (_ : o.isWalk = false) : KpB B C W (W.putObj l o') :=
  ⟨(grownBy_putObj' W l o').size, World.putObj_heap_other (by omega), World.putObj_heap_other (by omega)⟩
theorem kpB_cell {B C : Nat} {W W' : World} (h : KpB B C W W') {j : Nat} {v : Value} (hc : W.cell? ⟨B, j, none⟩ = some v) : W'.cell? ⟨B, j, none⟩ = some v := (World.cell?_of_block (a := ⟨B, j, none⟩) h.2.1).trans hc
theorem kpC_cell {B C : Nat} {W W' : World} (h : KpB B C W W') {j : Nat} {v : Value} (hc : W.cell? ⟨C, j, none⟩ = some v) : W'.cell? ⟨C, j, none⟩ = some v := (World.cell?_of_block (a := ⟨C, j, none⟩) h.2.2).trans hc
theorem below_grown {W W' : World} (h : Below W.heap.size W W') : W.grownBy W' none := ⟨h.os, h.tape, h.output, h.size, fun k hk _ => h.block k hk⟩

set_option maxHeartbeats 400000 in
theorem arguments_any (b p : Int) (w : World) : Calls Tryd.prog 41 #[.int .i64 b, .int .i64 p] w fun e w' => e = .returned (.func (.func 52) #[] #[.pointer (some ⟨w.heap.size + 1, 0, none⟩), .pointer (some ⟨w.heap.size, 0, none⟩)]) ∧ w' = (w.alloc (.cells #[.int .i64 b] 3)).alloc (.cells #[.int .i64 p] 3) := by
  go_enter Tryd.func41, Tryd.ntmps41
  go_wp2
  go_ret
  exact ⟨rfl, rfl⟩
theorem argL_len (b p : Int) : (argL b p).length = (min p 8).toNat := by simp [argL]
theorem argL_at {b p : Int} {k : Nat} (h : k < (min p 8).toNat) : (argL b p)[k]? = some (wrap64 (b + (k : Int))) := by simp [argL, h]
theorem argL_take {b p : Int} {k : Nat} (h : k < (min p 8).toNat) : (argL b p).take (k + 1) = (argL b p).take k ++ [wrap64 (b + (k : Int))] := by
  rw [List.take_add_one, argL_at h]; rfl

set_option maxRecDepth 100000 in
set_option maxHeartbeats 1000000 in
theorem args1_in (n l Bp Bf : Nat) (hn : 1 ≤ n) (b p : Int) (q : Nat) (hq : (min p 8).toNat = q) (hq8 : q ≤ 8) (J Jx : List Int → World → Prop)
    (hY : ∀ pre x W, J pre W → pre.length < q → YieldAt Fence.wide (n - 1) Tryd.prog l (encN x) W fun e W' =>
      (e = .returned (.bool true) ∧ J (pre ++ [x]) W' ∧ KpB Bp Bf W W') ∨ (e = .returned (.bool false) ∧ Jx (pre ++ [x]) W'))
    (W : World) (hBp : W.cell? ⟨Bp, 0, none⟩ = some (.int .i64 p)) (hBf : W.cell? ⟨Bf, 0, none⟩ = some (.int .i64 b)) (h0 : J [] W) :
    CallsIn Fence.wide n Tryd.prog 52 #[.func (.yield l) #[] #[], .pointer (some ⟨Bp, 0, none⟩), .pointer (some ⟨Bf, 0, none⟩)] W fun e W' => (∃ v, e = .returned v) ∧
      ((∃ ys, ys = argL b p ∧ J ys W') ∨ (∃ pre, pre <+: argL b p ∧ Jx pre W')) := by
  have HQ := Hid.mk' hq
  have HL : Hid ((argL b p).length = q) := (argL_len b p).trans hq
  have hmin : min p 8 = p ∧ p ≤ 8 ∨ min p 8 = 8 ∧ 8 < p := by omega
  refine callsIn_of_wp Tryd.func52 rfl trivial ?_ rfl
  simp only [Tryd.ntmps52, List.size_toArray, List.length_cons, List.length_nil, Nat.reduceAdd, Nat.reduceSub, Array.replicate_succ, Array.replicate_zero, List.push_toArray, List.append_toArray, List.nil_append, List.cons_append]
  gi_wp2_with fail
  gi_loopw [7] (fun t wr => ∃ (k : Nat), t = .int .i64 k ∧ k ≤ q ∧ wr.cell? ⟨Bf, 0, none⟩ = some (.int .i64 b) ∧ J ((argL b p).take k) wr) (fun t _ => q - (intOf t).toNat)
  case atStart => exact ⟨0, rfl, Nat.zero_le _, hBf, h0⟩
  case round =>
    obtain ⟨k, rfl, hk, hB, hJs⟩ := hrel
    by_cases hlt : k < q
    · have hlt' : k < (min p 8).toNat := by rw [HQ.out]; exact hlt
      have hc : (k : Int) < min p 8 := by omega
      have HT := Hid.mk' (argL_take (b := b) hlt')
      obtain ⟨fn, tmps, assign, body, hy, hR⟩ := hY _ (wrap64 (b + (k : Int))) _ hJs (by rw [List.length_take, HL.out]; omega)
      clear hmin hlt'
      gi_wp2_with fail
      refine hR.mono ?_
      rintro e W3 (⟨rfl, hJ3, hk3⟩ | ⟨rfl, hJx3⟩)
      · have hB3 := kpC_cell hk3 hB
        clear hk3 hR hy
        gi_wp2_with fail
        go_roundw
        case rel => exact ⟨k + 1, by go_num, by omega, hB3, by rw [HT.out]; exact hJ3⟩
        case measure => simp [intOf]; omega
      · gi_wp2_with fail
        refine bodyPost_ret (results_none rfl _ _ _) rfl ⟨⟨_, rfl⟩, .inr ⟨_, ?_, hJx3⟩⟩
        rw [← HT.out]; exact List.take_prefix _ _
    · have hc : ¬ ((k : Int) < min p 8) := by have := HQ.out; omega
      have hkq : k = q := by omega
      have HK := Hid.mk' hkq
      clear hkq hmin
      gi_wp2_with fail
      go_end0
      rw [List.take_of_length_le (by rw [HL.out, HK.out]; exact Nat.le_refl _)] at hJs
      exact ⟨⟨_, rfl⟩, .inl hJs⟩
theorem args_stops (n Bp Bf : Nat) (hn : 1 ≤ n) (b p : Int) (w : World) (hBp : w.cell? ⟨Bp, 0, none⟩ = some (.int .i64 p)) (hBf : w.cell? ⟨Bf, 0, none⟩ = some (.int .i64 b)) :
    SeqStopsK Fence.wide n Tryd.prog 52 #[.pointer (some ⟨Bp, 0, none⟩), .pointer (some ⟨Bf, 0, none⟩)] encN (KpB Bp Bf) (fun ys => ys = argL b p) (fun pre => pre <+: argL b p) (argL b p).length w :=
  fun l J Jx W hW _ _ hY h0 => args1_in n l Bp Bf hn b p _ rfl (by omega) J Jx (by rw [← argL_len b p]; exact hY) W ((hW.cell (p := ⟨Bp, 0, none⟩) (lt_of_cell hBp)).trans hBp) ((hW.cell (p := ⟨Bf, 0, none⟩) (lt_of_cell hBf)).trans hBf) h0
end Go.Proofs.YtlkoigdnakmdlaaDoor

/- What is wrong with an instruction: checkN, checkIns. -/
namespace Go.Proofs.YtlkoigdnakmdlaaDoor
open Go.RowKit Go.Sort

abbrev oM (m : Mo) : Obj := .cells #[.slice m.ta m.ths.length m.tc, .slice m.fa m.funcs.length m.fc] 33
abbrev oF (f : Fn) : Obj := .cells #[.string f.name, .slice f.pa f.params.length f.pc, .int .i64 f.regs, .int .i64 f.words, .slice f.ca f.code.length f.cc] 46
abbrev oX (x : Is) : Obj := .cells #[.int .i64 x.op, .int .i64 x.a, .int .i64 x.b, .int .i64 x.c, .int .i64 x.n] 27
theorem below3 (w : World) (a b c : Obj) : Below w.heap.size w (((w.alloc a).alloc b).alloc c) := Below.one (Below.one (Below.one (Below.refl _ w) a) b) c
theorem cell_m {w : World} {m : Mo} {b c : Obj} {j : Nat} {v : Value} (h : (#[.slice m.ta m.ths.length m.tc, .slice m.fa m.funcs.length m.fc] : Array Value)[j]? = some v) : (((w.alloc (oM m)).alloc b).alloc c).cell? ⟨w.heap.size, j, none⟩ = some v :=
  cell_kept_below (new_cell w _ _ j v h) (Below.one (Below.one (Below.refl _ _) b) c)
theorem cell_f {w : World} {a : Obj} {f : Fn} {c : Obj} {j : Nat} {v : Value} (h : (#[.string f.name, .slice f.pa f.params.length f.pc, .int .i64 f.regs, .int .i64 f.words, .slice f.ca f.code.length f.cc] : Array Value)[j]? = some v) : (((w.alloc a).alloc (oF f)).alloc c).cell? ⟨w.heap.size + 1, j, none⟩ = some v := by
  have := cell_kept_below (new_cell (w.alloc a) _ 46 j v h) (Below.one (Below.refl _ _) c)
  rwa [World.size_alloc] at this
theorem cell_x {w : World} {a b : Obj} {x : Is} {j : Nat} {v : Value} (h : (#[.int .i64 x.op, .int .i64 x.a, .int .i64 x.b, .int .i64 x.c, .int .i64 x.n] : Array Value)[j]? = some v) : (((w.alloc a).alloc b).alloc (oX x)).cell? ⟨w.heap.size + 1 + 1, j, none⟩ = some v := by
  have := new_cell ((w.alloc a).alloc b) _ 27 j v h
  rwa [World.size_alloc, World.size_alloc] at this

theorem rw_n (op : Int) : (rwOf op).n = 0 ∨ (rwOf op).n = 1 ∨ (rwOf op).n = 2 ∨ (rwOf op).n = 3 ∨ (rwOf op).n = 4 := by
  by_cases h : 0 ≤ op ∧ op ≤ 19
  · refine op_cases (P := fun op => (rwOf op).n = 0 ∨ (rwOf op).n = 1 ∨ (rwOf op).n = 2 ∨ (rwOf op).n = 3 ∨ (rwOf op).n = 4) h.1 h.2 ?_ ?_ ?_ ?_ ?_ ?_ ?_ ?_ ?_ ?_ ?_ ?_ ?_ ?_ ?_ ?_ ?_ ?_ ?_ ?_ <;> decide
  · rw [rwOf_no h]; simp
theorem parN_at {m : Mo} {k : Nat} (h : k < m.funcs.length) : parN m k = (m.funcs[k].params.length : Int) := by
  unfold parN; simp [h]

def callZ (m : Mo) (f : Fn) (x : Is) : Int := if x.n < 0 ∨ x.n ≥ m.funcs.length ∨ wrap64 (x.b + parN m x.n) > f.regs then 65 else 0
set_option maxRecDepth 100000 in
set_option maxHeartbeats 1000000 in
theorem checkN_call (m : Mo) (f : Fn) (x : Is) (w : World) (hm : Fns w m.fa m.funcs) (r0 : ByteArray) (r1 r2 r3 : Int) (r4 : Bool)
    (HR : Hid (Calls Tryd.prog 28 #[.int .i64 x.op] (((w.alloc (oM m)).alloc (oF f)).alloc (oX x)) fun e w' => e = .returned (.agg #[.string r0, .int .i64 r1, .int .i64 r2, .int .i64 r3, .bool r4, .int .i64 4]) ∧ Below (((w.alloc (oM m)).alloc (oF f)).alloc (oX x)).heap.size (((w.alloc (oM m)).alloc (oF f)).alloc (oX x)) w')) :
    Calls Tryd.prog 55 #[m.val, f.val, x.val] w fun e w' => e = .returned (.int .i64 (callZ m f x)) ∧ Below w.heap.size w w' := by
  have hb := below3 w (oM m) (oF f) (oX x)
  have HM := Hid.mk' (hm.stay hb)
  have hcl := hm.1
  have HZ : Hid (callZ m f x = if x.n < 0 ∨ x.n ≥ m.funcs.length ∨ wrap64 (x.b + parN m x.n) > f.regs then 65 else 0) := (rfl : callZ m f x = _)
  generalize callZ m f x = z at *
  have hfd := fld_row5
  have m1 := cell_m (w := w) (m := m) (b := oF f) (c := oX x) (j := 1) rfl
  have f2 := cell_f (w := w) (a := oM m) (f := f) (c := oX x) (j := 2) rfl
  have x2 := cell_x (w := w) (a := oM m) (b := oF f) (x := x) (j := 2) rfl
  have x4 := cell_x (w := w) (a := oM m) (b := oF f) (x := x) (j := 4) rfl
  clear hm
  unfold Mo.val Fn.val Is.val
  by_cases h0 : x.n < 0
  · have hz := HZ.out
    simp [h0] at hz
    subst hz
    clear HZ
    go_enter Tryd.func55, Tryd.ntmps55
    go_upto_region 12 with (go_at_call 28; refine HR.out.mono ?_; rintro e w1 ⟨rfl, hb1⟩; replace x4 := cell_kept_below x4 hb1; replace m1 := cell_kept_below m1 hb1; replace hb := Below.on hb hb1)
    replace x4 := fun d os => cell_regrown x4 d os
    replace m1 := fun d os => cell_regrown m1 d os
    refine wp_region_quiet_below (by kernel_rfl) (by kernel_rfl) ?_
    repeat (go_big_quiet_step (fail))
    refine wpQuiet_nil ?_
    rintro _ ⟨⟨dq, osq⟩, rfl⟩
    clear x4 m1
    go_wp2_with fail
    go_ret
    exact ⟨rfl, Below.on hb (below_regrown _ dq osq)⟩
  · by_cases h1 : (m.funcs.length : Int) ≤ x.n
    · have hz := HZ.out
      simp [h1] at hz
      subst hz
      clear HZ
      have b0 : decide (x.n < 0) = false := decide_eq_false h0
      have b1 : decide ((m.funcs.length : Int) ≤ x.n) = true := decide_eq_true h1
      go_enter Tryd.func55, Tryd.ntmps55
      go_upto_region 12 with (go_at_call 28; refine HR.out.mono ?_; rintro e w1 ⟨rfl, hb1⟩; replace x4 := cell_kept_below x4 hb1; replace m1 := cell_kept_below m1 hb1; replace hb := Below.on hb hb1)
      replace x4 := fun d os => cell_regrown x4 d os
      replace m1 := fun d os => cell_regrown m1 d os
      refine wp_region_quiet_below (by kernel_rfl) (by kernel_rfl) ?_
      repeat (go_big_quiet_step (fail))
      refine wpQuiet_nil ?_
      rintro _ ⟨⟨dq, osq⟩, rfl⟩
      clear x4 m1
      go_wp2_with fail
      go_ret
      exact ⟨rfl, Below.on hb (below_regrown _ dq osq)⟩
    · obtain ⟨k, hk⟩ : ∃ k : Nat, x.n = k := ⟨x.n.toNat, by omega⟩
      have hk1 : k < m.funcs.length := by omega
      obtain ⟨b, o, e0, c0, c1, c2, c3, c4⟩ := fns_at HM.out hk1
      have hz := HZ.out
      have hnot : ¬ ((m.funcs.length : Int) ≤ (k : Int)) := by omega
      rw [hk, parN_at hk1] at hz
      have hz2 : z = if wrap64 (x.b + (m.funcs[k].params.length : Int)) > f.regs then 65 else 0 := by
        rw [hz]; congr 1; simp only [eq_iff_iff]; constructor
        · rintro (h | h | h)
          · omega
          · exact absurd h hnot
          · exact h
        · exact fun h => .inr (.inr h)
      obtain ⟨ta, tc, ths, fa, fc, funcs⟩ := m
      obtain ⟨xo, xa, xb, xc, xn⟩ := x
      simp only at *
      subst e0
      subst hk
      have hm1 : (k : Int) < (funcs.length : Int) := by omega
      have hk0 : ¬ ((k : Int) < 0) := by omega
      have b0 : decide ((k : Int) < 0) = false := decide_eq_false hk0
      have b1 : decide ((funcs.length : Int) ≤ (k : Int)) = false := decide_eq_false hnot
      have b2 : decide (funcs.length ≤ k) = false := decide_eq_false (by omega)
      generalize funcs[k] = g at *
      clear c0 c2 c3 c4 HZ h0 h1 hnot hz HM hk1
      cases hw : decide (f.regs < wrap64 (xb + (g.params.length : Int)))
      · have hz0 : z = 0 := by rw [hz2, if_neg (of_decide_eq_false hw)]
        subst hz0
        clear hz2
        go_enter Tryd.func55, Tryd.ntmps55
        go_upto_region 12 with (go_at_call 28; refine HR.out.mono ?_; rintro e w1 ⟨rfl, hb1⟩; replace x4 := cell_kept_below x4 hb1; replace x2 := cell_kept_below x2 hb1; replace f2 := cell_kept_below f2 hb1; replace m1 := cell_kept_below m1 hb1; replace c1 := cell_kept_below c1 hb1; replace hb := Below.on hb hb1)
        replace x4 := fun d os => cell_regrown x4 d os
        replace x2 := fun d os => cell_regrown x2 d os
        replace m1 := fun d os => cell_regrown m1 d os
        replace f2 := fun d os => cell_regrown f2 d os
        replace c1 := fun d os => cell_regrown c1 d os
        refine wp_region_quiet_below (by kernel_rfl) (by kernel_rfl) ?_
        repeat (go_big_quiet_step (fail))
        refine wpQuiet_nil ?_
        rintro _ ⟨⟨dq, osq⟩, rfl⟩
        clear x4 m1 x2 f2 c1
        go_wp2_with fail
        go_ret
        exact ⟨rfl, Below.on hb (below_regrown _ dq osq)⟩
      · have hz0 : z = 65 := by rw [hz2, if_pos (of_decide_eq_true hw)]
        subst hz0
        clear hz2
        go_enter Tryd.func55, Tryd.ntmps55
        go_upto_region 12 with (go_at_call 28; refine HR.out.mono ?_; rintro e w1 ⟨rfl, hb1⟩; replace x4 := cell_kept_below x4 hb1; replace x2 := cell_kept_below x2 hb1; replace f2 := cell_kept_below f2 hb1; replace m1 := cell_kept_below m1 hb1; replace c1 := cell_kept_below c1 hb1; replace hb := Below.on hb hb1)
        replace x4 := fun d os => cell_regrown x4 d os
        replace x2 := fun d os => cell_regrown x2 d os
        replace m1 := fun d os => cell_regrown m1 d os
        replace f2 := fun d os => cell_regrown f2 d os
        replace c1 := fun d os => cell_regrown c1 d os
        refine wp_region_quiet_below (by kernel_rfl) (by kernel_rfl) ?_
        repeat (go_big_quiet_step (fail))
        refine wpQuiet_nil ?_
        rintro _ ⟨⟨dq, osq⟩, rfl⟩
        clear x4 m1 x2 f2 c1
        go_wp2_with fail
        go_ret
        exact ⟨rfl, Below.on hb (below_regrown _ dq osq)⟩
set_option maxRecDepth 100000 in
set_option maxHeartbeats 4000000 in
theorem checkN_any (m : Mo) (f : Fn) (x : Is) (w : World) (ht : Tab w) (hm : Fns w m.fa m.funcs) :
    Calls Tryd.prog 55 #[m.val, f.val, x.val] w fun e w' => e = .returned (.int .i64 (numZ m f x)) ∧ Below w.heap.size w w' := by
  have hb := below3 w (oM m) (oF f) (oX x)
  have HR := Hid.mk' (rowOf_any x.op _ (ht.stay hb))
  have HZ : Hid (numZ m f x = if (rwOf x.op).n = 0 then (if x.n ≠ 0 then 62 else 0) else if (rwOf x.op).n = 2 then (if x.n < 1 ∨ x.n > 4096 then 2 else 0) else if (rwOf x.op).n = 3 then (if x.n < 0 ∨ x.n ≥ f.code.length then 63 else 0)
    else if (rwOf x.op).n = 4 then (if x.n < 0 ∨ x.n ≥ m.funcs.length ∨ wrap64 (x.b + parN m x.n) > f.regs then 65 else 0) else 0) := (rfl : numZ m f x = _)
  have hn := rw_n x.op
  have hm0 := hm
  have hcl := hm.1
  unfold Rw.val at HR
  generalize rwOf x.op = r at *
  obtain ⟨r0, r1, r2, r3, r4, r5⟩ := r
  simp only at HR HZ hn
  generalize numZ m f x = z at *
  have hfd := fld_row5
  have m1 := cell_m (w := w) (m := m) (b := oF f) (c := oX x) (j := 1) rfl
  have f2 := cell_f (w := w) (a := oM m) (f := f) (c := oX x) (j := 2) rfl
  have f4 := cell_f (w := w) (a := oM m) (f := f) (c := oX x) (j := 4) rfl
  have x2 := cell_x (w := w) (a := oM m) (b := oF f) (x := x) (j := 2) rfl
  have x4 := cell_x (w := w) (a := oM m) (b := oF f) (x := x) (j := 4) rfl
  clear ht hm
  have hm0 := Hid.mk' hm0
  unfold Mo.val Fn.val Is.val
  rcases hn with rfl | rfl | rfl | rfl | rfl
  · by_cases h0 : x.n = 0
    · have hz := HZ.out
      simp [h0] at hz
      subst hz
      have hq : (x.n != 0) = false := bne_no h0
      clear HZ h0
      go_enter Tryd.func55, Tryd.ntmps55
      go_wp2_with (go_at_call 28; refine HR.out.mono ?_; rintro e w1 ⟨rfl, hb1⟩; replace x4 := cell_kept_below x4 hb1; replace hb := Below.on hb hb1)
      go_ret
      exact ⟨rfl, hb⟩
    · have hz := HZ.out
      simp [h0] at hz
      subst hz
      have hq : (x.n != 0) = true := bne_of h0
      clear HZ h0
      go_enter Tryd.func55, Tryd.ntmps55
      go_wp2_with (go_at_call 28; refine HR.out.mono ?_; rintro e w1 ⟨rfl, hb1⟩; replace x4 := cell_kept_below x4 hb1; replace hb := Below.on hb hb1)
      go_ret
      exact ⟨rfl, hb⟩
  · have hz := HZ.out
    simp at hz
    subst hz
    clear HZ
    go_enter Tryd.func55, Tryd.ntmps55
    go_wp2_with (go_at_call 28; refine HR.out.mono ?_; rintro e w1 ⟨rfl, hb1⟩; replace hb := Below.on hb hb1)
    go_ret
    exact ⟨rfl, hb⟩
  · by_cases h0 : x.n < 1
    · have hz := HZ.out
      simp [h0] at hz
      subst hz
      clear HZ
      go_enter Tryd.func55, Tryd.ntmps55
      go_wp2_with (go_at_call 28; refine HR.out.mono ?_; rintro e w1 ⟨rfl, hb1⟩; replace x4 := cell_kept_below x4 hb1; replace hb := Below.on hb hb1)
      go_ret
      exact ⟨rfl, hb⟩
    · by_cases h1 : 4096 < x.n
      · have hz := HZ.out
        simp [h1] at hz
        subst hz
        clear HZ
        go_enter Tryd.func55, Tryd.ntmps55
        go_wp2_with (go_at_call 28; refine HR.out.mono ?_; rintro e w1 ⟨rfl, hb1⟩; replace x4 := cell_kept_below x4 hb1; replace hb := Below.on hb hb1)
        go_ret
        exact ⟨rfl, hb⟩
      · have hz := HZ.out
        simp [h0, h1] at hz
        subst hz
        clear HZ
        go_enter Tryd.func55, Tryd.ntmps55
        go_wp2_with (go_at_call 28; refine HR.out.mono ?_; rintro e w1 ⟨rfl, hb1⟩; replace x4 := cell_kept_below x4 hb1; replace hb := Below.on hb hb1)
        go_ret
        exact ⟨rfl, hb⟩
  · by_cases h0 : x.n < 0
    · have hz := HZ.out
      simp [h0] at hz
      subst hz
      clear HZ
      go_enter Tryd.func55, Tryd.ntmps55
      go_wp2_with (go_at_call 28; refine HR.out.mono ?_; rintro e w1 ⟨rfl, hb1⟩; replace x4 := cell_kept_below x4 hb1; replace f4 := cell_kept_below f4 hb1; replace hb := Below.on hb hb1)
      go_ret
      exact ⟨rfl, hb⟩
    · by_cases h1 : (f.code.length : Int) ≤ x.n
      · have hz := HZ.out
        simp [h1] at hz
        subst hz
        clear HZ
        go_enter Tryd.func55, Tryd.ntmps55
        go_wp2_with (go_at_call 28; refine HR.out.mono ?_; rintro e w1 ⟨rfl, hb1⟩; replace x4 := cell_kept_below x4 hb1; replace f4 := cell_kept_below f4 hb1; replace hb := Below.on hb hb1)
        go_ret
        exact ⟨rfl, hb⟩
      · have hz := HZ.out
        simp [h0, h1] at hz
        subst hz
        clear HZ
        go_enter Tryd.func55, Tryd.ntmps55
        go_wp2_with (go_at_call 28; refine HR.out.mono ?_; rintro e w1 ⟨rfl, hb1⟩; replace x4 := cell_kept_below x4 hb1; replace f4 := cell_kept_below f4 hb1; replace hb := Below.on hb hb1)
        go_ret
        exact ⟨rfl, hb⟩
  · have hz : z = callZ m f x := by rw [HZ.out]; rfl
    subst hz
    exact checkN_call m f x w hm0.out r0 r1 r2 r3 r4 HR
end Go.Proofs.YtlkoigdnakmdlaaDoor

/- What is wrong with an instruction: checkIns. -/
namespace Go.Proofs.YtlkoigdnakmdlaaDoor
open Go.RowKit Go.Sort

theorem ix_0 (a b c : Int) (w : World) : (Instr.index 66 (.agg #[.int .i64 a, .int .i64 b, .int .i64 c]) (.int .i64 0)).run Tryd.prog w = .ok (.int .i64 a) w := by kernel_rfl
theorem ix_1 (a b c : Int) (w : World) : (Instr.index 66 (.agg #[.int .i64 a, .int .i64 b, .int .i64 c]) (.int .i64 1)).run Tryd.prog w = .ok (.int .i64 b) w := by kernel_rfl
theorem ix_2 (a b c : Int) (w : World) : (Instr.index 66 (.agg #[.int .i64 a, .int .i64 b, .int .i64 c]) (.int .i64 2)).run Tryd.prog w = .ok (.int .i64 c) w := by kernel_rfl
set_option maxRecDepth 100000 in
set_option maxHeartbeats 4000000 in
theorem checkIns_any (m : Mo) (f : Fn) (x : Is) (w : World) (ht : Tab w) (hm : Fns w m.fa m.funcs) :
    Calls Tryd.prog 45 #[m.val, f.val, x.val] w fun e w' => e = .returned (.int .i64 (insZ m f x)) ∧ Below w.heap.size w w' := by
  have hb := below3 w (oM m) (oF f) (oX x)
  have f2 := cell_f (w := w) (a := oM m) (f := f) (c := oX x) (j := 2) rfl
  have f0 := cell_f (w := w) (a := oM m) (f := f) (c := oX x) (j := 0) rfl
  have f1 := cell_f (w := w) (a := oM m) (f := f) (c := oX x) (j := 1) rfl
  have f3 := cell_f (w := w) (a := oM m) (f := f) (c := oX x) (j := 3) rfl
  have f4 := cell_f (w := w) (a := oM m) (f := f) (c := oX x) (j := 4) rfl
  have m0 := cell_m (w := w) (m := m) (b := oF f) (c := oX x) (j := 0) rfl
  have m1 := cell_m (w := w) (m := m) (b := oF f) (c := oX x) (j := 1) rfl
  have x0 := cell_x (w := w) (a := oM m) (b := oF f) (x := x) (j := 0) rfl
  have x1 := cell_x (w := w) (a := oM m) (b := oF f) (x := x) (j := 1) rfl
  have x2 := cell_x (w := w) (a := oM m) (b := oF f) (x := x) (j := 2) rfl
  have x3 := cell_x (w := w) (a := oM m) (b := oF f) (x := x) (j := 3) rfl
  have x4 := cell_x (w := w) (a := oM m) (b := oF f) (x := x) (j := 4) rfl
  have HK := Hid.mk' (known_any x.op)
  have HR := Hid.mk' (rowOf_any x.op _ (ht.stay hb))
  have HF := Hid.mk' (fields_any x)
  have HN : Hid (∀ w', Below w.heap.size w w' → Calls Tryd.prog 55 #[m.val, f.val, x.val] w' fun e w'' => e = .returned (.int .i64 (numZ m f x)) ∧ Below w'.heap.size w' w'') := fun w' hb => checkN_any m f x w' (ht.stay hb) (hm.stay hb)
  have HI : Hid (insZ m f x = if knB x.op = false then 60 else if regZ (bt (rwOf x.op).regs 0) x.a f.regs ≠ 0 then regZ (bt (rwOf x.op).regs 0) x.a f.regs else if regZ (bt (rwOf x.op).regs 1) x.b f.regs ≠ 0 then regZ (bt (rwOf x.op).regs 1) x.b f.regs else
    if regZ (bt (rwOf x.op).regs 2) x.c f.regs ≠ 0 then regZ (bt (rwOf x.op).regs 2) x.c f.regs else numZ m f x) := (rfl : insZ m f x = _)
  clear ht hm
  unfold Rw.val at HR
  generalize rwOf x.op = r at *
  obtain ⟨r0, r1, r2, r3, r4, r5⟩ := r
  simp only at HR HI
  generalize insZ m f x = z at *
  generalize numZ m f x = nz at *
  generalize knB x.op = kn at *
  unfold Mo.val Fn.val Is.val at HN
  unfold Is.val at HF
  unfold Mo.val Fn.val Is.val
  have hfd := fld_row2
  cases kn
  · have hz : z = 60 := by rw [HI.out]; rfl
    subst hz
    clear HI
    go_enter Tryd.func45, Tryd.ntmps45
    go_wp2_with (go_at_call 10; refine (HK.out _).mono ?_; rintro e w1 ⟨rfl, rfl⟩)
    go_ret
    exact ⟨rfl, hb⟩
  · have hi := HI.out
    rw [if_neg (by decide)] at hi
    have HZ0 : Hid (∀ c, regZ (bt r2 0) x.a f.regs = c → c ≠ 0 → z = c) := fun c h h' => by rw [hi, h, if_pos h']
    have HZ1 : Hid (regZ (bt r2 0) x.a f.regs = 0 → ∀ c, regZ (bt r2 1) x.b f.regs = c → c ≠ 0 → z = c) := fun h0 c h h' => by rw [hi, h0, if_neg (by decide), h, if_pos h']
    have HZ2 : Hid (regZ (bt r2 0) x.a f.regs = 0 → regZ (bt r2 1) x.b f.regs = 0 → ∀ c, regZ (bt r2 2) x.c f.regs = c → c ≠ 0 → z = c) := fun h0 h1 c h h' => by rw [hi, h0, if_neg (by decide), h1, if_neg (by decide), h, if_pos h']
    have HZ3 : Hid (regZ (bt r2 0) x.a f.regs = 0 → regZ (bt r2 1) x.b f.regs = 0 → regZ (bt r2 2) x.c f.regs = 0 → z = nz) := fun h0 h1 h2 => by rw [hi, h0, if_neg (by decide), h1, if_neg (by decide), h2, if_neg (by decide)]
    clear HI hi
    go_enter Tryd.func45, Tryd.ntmps45
    go_wp2_with (first | (go_at_call 10; refine (HK.out _).mono ?_; rintro e w1 ⟨rfl, rfl⟩) | (go_at_call 28; refine HR.out.mono ?_; rintro e w2 ⟨rfl, hb2⟩; replace f0 := cell_kept_below f0 hb2; replace f1 := cell_kept_below f1 hb2; replace f2 := cell_kept_below f2 hb2; replace f3 := cell_kept_below f3 hb2; replace f4 := cell_kept_below f4 hb2; replace m0 := cell_kept_below m0 hb2; replace m1 := cell_kept_below m1 hb2; replace x0 := cell_kept_below x0 hb2; replace x1 := cell_kept_below x1 hb2; replace x2 := cell_kept_below x2 hb2; replace x3 := cell_kept_below x3 hb2; replace x4 := cell_kept_below x4 hb2; replace hb := Below.on hb hb2; clear hb2) | (go_at_call 43; refine (HF.out _).mono ?_; rintro e w3 ⟨rfl, hb3⟩; replace f0 := cell_kept_below f0 hb3; replace f1 := cell_kept_below f1 hb3; replace f2 := cell_kept_below f2 hb3; replace f3 := cell_kept_below f3 hb3; replace f4 := cell_kept_below f4 hb3; replace m0 := cell_kept_below m0 hb3; replace m1 := cell_kept_below m1 hb3; replace x0 := cell_kept_below x0 hb3; replace x1 := cell_kept_below x1 hb3; replace x2 := cell_kept_below x2 hb3; replace x3 := cell_kept_below x3 hb3; replace x4 := cell_kept_below x4 hb3; replace hb := Below.on hb hb3; clear hb3))
    go_loop [21] (fun p => (p = .int .i64 0) ∨ (p = .int .i64 1 ∧ regZ (bt r2 0) x.a f.regs = 0) ∨ (p = .int .i64 2 ∧ regZ (bt r2 0) x.a f.regs = 0 ∧ regZ (bt r2 1) x.b f.regs = 0) ∨ (p = .int .i64 3 ∧ regZ (bt r2 0) x.a f.regs = 0 ∧ regZ (bt r2 1) x.b f.regs = 0 ∧ regZ (bt r2 2) x.c f.regs = 0)) (fun p => 3 - (intOf p).toNat)
    case atStart => exact .inl rfl
    case round =>
    have hi0 := ix_0
    have hi1 := ix_1
    have hi2 := ix_2
    rcases hrel with rfl | ⟨rfl, hz0⟩ | ⟨rfl, hz0, hz1⟩ | ⟨rfl, hz0, hz1, hz2⟩
    · cases hB : bt r2 0
      · have hB' : (bits .and .i64 r2 1 != 0) = false := hB
        by_cases h0 : x.a = 0
        · have hz : regZ false x.a f.regs = 0 := by simp [regZ, h0]
          have hq : (x.a != 0) = false := bne_no h0
          clear h0 hB
          · 
            go_wp2_with fail
            go_round
            case rel => exact .inr (.inl ⟨rfl, hz⟩)
            case measure => simp [intOf]
        · have HE : Hid (z = 62) := HZ0.out  62 (by rw [hB]; simp [regZ, h0]) (by decide)
          have hq : (x.a != 0) = true := bne_of h0
          clear h0 hB
          go_wp2_with fail
          go_ret
          exact ⟨ret_int HE.out.symm, hb⟩
      · have hB' : (bits .and .i64 r2 1 != 0) = true := hB
        by_cases h1 : x.a < 0
        · have HE : Hid (z = 61) := HZ0.out  61 (by rw [hB]; simp [regZ, h1]) (by decide)
          clear hB
          go_wp2_with fail
          go_ret
          exact ⟨ret_int HE.out.symm, hb⟩
        · by_cases h2 : f.regs ≤ x.a
          · have HE : Hid (z = 61) := HZ0.out  61 (by rw [hB]; simp [regZ, h2]) (by decide)
            clear hB
            go_wp2_with fail
            go_ret
            exact ⟨ret_int HE.out.symm, hb⟩
          · have hz : regZ true x.a f.regs = 0 := by simp [regZ, h1, h2]
            clear hB
            go_wp2_with fail
            go_round
            case rel => exact .inr (.inl ⟨rfl, hz⟩)
            case measure => simp [intOf]
    · cases hB : bt r2 1
      · have hB' : (bits .and .i64 r2 2 != 0) = false := hB
        by_cases h0 : x.b = 0
        · have hz : regZ false x.b f.regs = 0 := by simp [regZ, h0]
          have hq : (x.b != 0) = false := bne_no h0
          clear h0 hB
          · 
            go_wp2_with fail
            go_round
            case rel => exact .inr (.inr (.inl ⟨rfl, hz0, hz⟩))
            case measure => simp [intOf]
        · have HE : Hid (z = 62) := HZ1.out hz0 62 (by rw [hB]; simp [regZ, h0]) (by decide)
          have hq : (x.b != 0) = true := bne_of h0
          clear h0 hB
          go_wp2_with fail
          go_ret
          exact ⟨ret_int HE.out.symm, hb⟩
      · have hB' : (bits .and .i64 r2 2 != 0) = true := hB
        by_cases h1 : x.b < 0
        · have HE : Hid (z = 61) := HZ1.out hz0 61 (by rw [hB]; simp [regZ, h1]) (by decide)
          clear hB
          go_wp2_with fail
          go_ret
          exact ⟨ret_int HE.out.symm, hb⟩
        · by_cases h2 : f.regs ≤ x.b
          · have HE : Hid (z = 61) := HZ1.out hz0 61 (by rw [hB]; simp [regZ, h2]) (by decide)
            clear hB
            go_wp2_with fail
            go_ret
            exact ⟨ret_int HE.out.symm, hb⟩
          · have hz : regZ true x.b f.regs = 0 := by simp [regZ, h1, h2]
            clear hB
            go_wp2_with fail
            go_round
            case rel => exact .inr (.inr (.inl ⟨rfl, hz0, hz⟩))
            case measure => simp [intOf]
    · cases hB : bt r2 2
      · have hB' : (bits .and .i64 r2 4 != 0) = false := hB
        by_cases h0 : x.c = 0
        · have hz : regZ false x.c f.regs = 0 := by simp [regZ, h0]
          have hq : (x.c != 0) = false := bne_no h0
          clear h0 hB
          · 
            go_wp2_with fail
            go_round
            case rel => exact .inr (.inr (.inr (⟨rfl, hz0, hz1, hz⟩)))
            case measure => simp [intOf]
        · have HE : Hid (z = 62) := HZ2.out hz0 hz1 62 (by rw [hB]; simp [regZ, h0]) (by decide)
          have hq : (x.c != 0) = true := bne_of h0
          clear h0 hB
          go_wp2_with fail
          go_ret
          exact ⟨ret_int HE.out.symm, hb⟩
      · have hB' : (bits .and .i64 r2 4 != 0) = true := hB
        by_cases h1 : x.c < 0
        · have HE : Hid (z = 61) := HZ2.out hz0 hz1 61 (by rw [hB]; simp [regZ, h1]) (by decide)
          clear hB
          go_wp2_with fail
          go_ret
          exact ⟨ret_int HE.out.symm, hb⟩
        · by_cases h2 : f.regs ≤ x.c
          · have HE : Hid (z = 61) := HZ2.out hz0 hz1 61 (by rw [hB]; simp [regZ, h2]) (by decide)
            clear hB
            go_wp2_with fail
            go_ret
            exact ⟨ret_int HE.out.symm, hb⟩
          · have hz : regZ true x.c f.regs = 0 := by simp [regZ, h1, h2]
            clear hB
            go_wp2_with fail
            go_round
            case rel => exact .inr (.inr (.inr (⟨rfl, hz0, hz1, hz⟩)))
            case measure => simp [intOf]
    · have HE : Hid (z = nz) := HZ3.out hz0 hz1 hz2
      clear hz0 hz1 hz2 HZ0 HZ1 HZ2 HZ3
      go_wp2_with (go_at_call 55; refine (HN.out _ hb).mono ?_; rintro e w4 ⟨rfl, hb4⟩)
      go_ret
      exact ⟨ret_int HE.out.symm, Below.on hb hb4⟩
end Go.Proofs.YtlkoigdnakmdlaaDoor

/- The function that code.Reads hands back: the registers that are read, in their order. -/
namespace Go.Proofs.YtlkoigdnakmdlaaDoor
open Go.RowKit Go.Shelf
attribute [local go_sem] Oper.semAt_some

def bl (b : Bool) (x : Int) : List Int := if b then [x] else []
theorem fldL_eq (x : Is) : fldL x = bl (bt (rwOf x.op).reads 0) x.a ++ bl (bt (rwOf x.op).reads 1) x.b ++ bl (bt (rwOf x.op).reads 2) x.c := rfl

theorem one_way {e : Ending} {A B : Prop} (h : (e = .returned (.bool true) ∧ A) ∨ (e = .returned (.bool false) ∧ B)) : ∃ t : Bool, e = .returned (.bool t) ∧ Hid ((t = true → A) ∧ (t = false → B)) := by
  rcases h with ⟨h1, h2⟩ | ⟨h1, h2⟩
  · exact ⟨true, h1, (fun _ => h2), (fun h => by cases h)⟩
  · exact ⟨false, h1, (fun h => by cases h), fun _ => h2⟩
theorem grown_drewN (w : World) (n : Nat) : w.grownBy (w.drewN n) none := ⟨rfl, rfl, rfl, Nat.le_refl _, fun _ _ _ => rfl⟩
set_option maxRecDepth 100000 in
set_option maxHeartbeats 2000000 in
theorem reads1_in (n l Bx Br : Nat) (hn : 1 ≤ n) (x : Is) (r : Int) (L : List Int) (hL : L = bl (bt r 0) x.a ++ bl (bt r 1) x.b ++ bl (bt r 2) x.c) (J Jx : List Int → World → Prop) (B0 : Nat) (hJ : AbidesFrom B0 J)
    (hY : ∀ pre x W, J pre W → pre.length < L.length → YieldAt Fence.wide (n - 1) Tryd.prog l (encN x) W fun e W' =>
      (e = .returned (.bool true) ∧ J (pre ++ [x]) W' ∧ KpB Bx Br W W') ∨ (e = .returned (.bool false) ∧ Jx (pre ++ [x]) W'))
    (W : World) (hBx0 : W.cell? ⟨Bx, 0, none⟩ = some (.int .i64 x.op)) (hBx1 : W.cell? ⟨Bx, 1, none⟩ = some (.int .i64 x.a)) (hBx2 : W.cell? ⟨Bx, 2, none⟩ = some (.int .i64 x.b)) (hBx3 : W.cell? ⟨Bx, 3, none⟩ = some (.int .i64 x.c)) (hBx4 : W.cell? ⟨Bx, 4, none⟩ = some (.int .i64 x.n))
    (hBr : W.cell? ⟨Br, 0, none⟩ = some (.int .i64 r)) (h0 : J [] W) :
    CallsIn Fence.wide n Tryd.prog 42 #[.func (.yield l) #[] #[], .pointer (some ⟨Bx, 0, none⟩), .pointer (some ⟨Br, 0, none⟩)] W fun e W' => (∃ v, e = .returned v) ∧
      ((∃ ys, ys = L ∧ J ys W') ∨ (∃ pre, pre <+: L ∧ Jx pre W')) := by
  have HF := Hid.mk' (fields_any x)
  unfold Is.val at HF
  have hi0 := ix_0
  have hi1 := ix_1
  have hi2 := ix_2
  have mixed : Tryd.prog.follows Departure.mixedOrders = true := by kernel_rfl
  refine callsIn_of_wp Tryd.func42 rfl trivial ?_ rfl
  simp only [Tryd.ntmps42, List.size_toArray, List.length_cons, List.length_nil, Nat.reduceAdd, Nat.reduceSub, Array.replicate_succ, Array.replicate_zero, List.push_toArray, List.append_toArray, List.nil_append, List.cons_append]
  gi_wp2_with (refine ⟨trivial, ?_⟩; gi_at_call 43; refine (callsIn_wide.2 (HF.out _)).mono ?_; rintro e w' ⟨rfl, hb'⟩)
  have hBr' := cell_kept_below hBr hb'
  have hJ0 := hJ [] W w' none h0 (below_grown hb') (by simp)
  clear h0 hBr hBx0 hBx1 hBx2 hBx3 hBx4 hb' HF
  gi_loopw [8] (fun t wr => ((t = .int .i64 0 ∧ J [] wr) ∨ (t = .int .i64 1 ∧ J (bl (bt r 0) x.a) wr) ∨ (t = .int .i64 2 ∧ J (bl (bt r 0) x.a ++ bl (bt r 1) x.b) wr) ∨ (t = .int .i64 3 ∧ J L wr)) ∧ wr.cell? ⟨Br, 0, none⟩ = some (.int .i64 r)) (fun t _ => 3 - (intOf t).toNat)
  case atStart => exact ⟨.inl ⟨rfl, hJ0⟩, hBr'⟩
  case round =>
    obtain ⟨hrel, hB⟩ := hrel
    clear hJ0 hBr'
    rcases hrel with ⟨rfl, hJs⟩ | ⟨rfl, hJs⟩ | ⟨rfl, hJs⟩ | ⟨rfl, hJs⟩
    · obtain ⟨bb, hb⟩ : ∃ bb, bt r 0 = bb := ⟨_, rfl⟩
      have hbx : (bits .and .i64 r 1 != 0) = bt r 0 := rfl
      have hby : (bits .and .i64 r (IntKind.i64.wrap 1) != 0) = bt r 0 := rfl
      rw [hb] at hbx hby
      cases bb
      · have hJN : J (bl (bt r 0) x.a) wr := by rw [show bl (bt r 0) x.a = [] by rw [hb]; simp [bl]]; exact hJs
        clear hJs hb
        have hJD := fun n => hJ _ wr (wr.drewN n) none hJN (grown_drewN wr n) (by simp)
        have HD := Hid.mk' hJD
        clear hJD hJN hY hJ
        gi_wp2_with fail
        refine wpIn_region_quiet_lit rfl (by kernel_rfl) (by kernel_rfl) ?_
        repeat (gi_big_quiet_step (fail))
        refine Go.BigFrame.wpQuietIn_skip ?ask rfl ?_
        case ask => exact fun _ _ _ _ => trivial
        simp only [Act.put, List.setIfInBounds_toArray, List.set_cons_succ, List.set_cons_zero]
        repeat (gi_big_quiet_step (fail))
        refine wpQuietIn_nil ?_
        rintro _ ⟨nq, rfl⟩
        gi_wp2_with fail
        go_roundw
        case rel => exact ⟨.inr (.inl ⟨rfl, HD.out _⟩), hB⟩
        case measure => simp [intOf]
      · have hJd := hJ _ wr wr.drew none hJs (grown_drewN wr 1) (by simp)
        obtain ⟨fn, tmps, assign, body, hy, hR⟩ := hY _ x.a _ hJd (by rw [hL, hb]; simp [bl])
        have HNX := Hid.mk' (show bl (bt r 0) x.a = [] ++ [x.a] by rw [hb]; simp [bl])
        have HPX : Hid ([] ++ [x.a] <+: L) := (by rw [show [] ++ [x.a] = bl (bt r 0) x.a from HNX.out.symm]; rw [hL]; exact ⟨bl (bt r 1) x.b ++ bl (bt r 2) x.c, by simp⟩ : [] ++ [x.a] <+: L)
        clear hb hJd hY hJ hJs
        gi_wp2_with fail
        gi_region_with_o (refine hR.mono ?_; rintro e W3 h3; obtain ⟨tt, rfl, h4⟩ := one_way h3; clear h3)
        all_goals
          cases tt
          · have hJx3 := h4.out.2 rfl
            clear h4
            gi_wp2_with fail
            refine bodyPost_ret (results_none rfl _ _ _) rfl ⟨⟨_, rfl⟩, .inr ⟨_, HPX.out, hJx3⟩⟩
          · obtain ⟨hJ3, hk3⟩ := h4.out.1 rfl
            have hB3 := kpC_cell hk3 (show wr.drew.cell? ⟨Br, 0, none⟩ = some (.int .i64 r) from hB)
            clear h4 hk3
            gi_wp2_with fail
            go_roundw
            case rel => exact ⟨.inr (.inl ⟨rfl, by rw [HNX.out]; exact hJ3⟩), hB3⟩
            case measure => simp [intOf]
    · obtain ⟨bb, hb⟩ : ∃ bb, bt r 1 = bb := ⟨_, rfl⟩
      have hbx : (bits .and .i64 r 2 != 0) = bt r 1 := rfl
      have hby : (bits .and .i64 r (IntKind.i64.wrap 2) != 0) = bt r 1 := rfl
      rw [hb] at hbx hby
      cases bb
      · have hJN : J (bl (bt r 0) x.a ++ bl (bt r 1) x.b) wr := by rw [show bl (bt r 0) x.a ++ bl (bt r 1) x.b = bl (bt r 0) x.a by rw [hb]; simp [bl]]; exact hJs
        clear hJs hb
        have hJD := fun n => hJ _ wr (wr.drewN n) none hJN (grown_drewN wr n) (by simp)
        have HD := Hid.mk' hJD
        clear hJD hJN hY hJ
        gi_wp2_with fail
        refine wpIn_region_quiet_lit rfl (by kernel_rfl) (by kernel_rfl) ?_
        repeat (gi_big_quiet_step (fail))
        refine Go.BigFrame.wpQuietIn_skip ?ask rfl ?_
        case ask => exact fun _ _ _ _ => trivial
        simp only [Act.put, List.setIfInBounds_toArray, List.set_cons_succ, List.set_cons_zero]
        repeat (gi_big_quiet_step (fail))
        refine wpQuietIn_nil ?_
        rintro _ ⟨nq, rfl⟩
        gi_wp2_with fail
        go_roundw
        case rel => exact ⟨.inr (.inr (.inl ⟨rfl, HD.out _⟩)), hB⟩
        case measure => simp [intOf]
      · have hJd := hJ _ wr wr.drew none hJs (grown_drewN wr 1) (by simp)
        obtain ⟨fn, tmps, assign, body, hy, hR⟩ := hY _ x.b _ hJd (by rw [hL, hb]; simp [bl]; try omega)
        have HNX := Hid.mk' (show bl (bt r 0) x.a ++ bl (bt r 1) x.b = bl (bt r 0) x.a ++ [x.b] by rw [hb]; simp [bl])
        have HPX : Hid (bl (bt r 0) x.a ++ [x.b] <+: L) := (by rw [show bl (bt r 0) x.a ++ [x.b] = bl (bt r 0) x.a ++ bl (bt r 1) x.b from HNX.out.symm]; rw [hL]; exact ⟨bl (bt r 2) x.c, by simp⟩ : bl (bt r 0) x.a ++ [x.b] <+: L)
        clear hb hJd hY hJ hJs
        gi_wp2_with fail
        gi_region_with_o (refine hR.mono ?_; rintro e W3 h3; obtain ⟨tt, rfl, h4⟩ := one_way h3; clear h3)
        all_goals
          cases tt
          · have hJx3 := h4.out.2 rfl
            clear h4
            gi_wp2_with fail
            refine bodyPost_ret (results_none rfl _ _ _) rfl ⟨⟨_, rfl⟩, .inr ⟨_, HPX.out, hJx3⟩⟩
          · obtain ⟨hJ3, hk3⟩ := h4.out.1 rfl
            have hB3 := kpC_cell hk3 (show wr.drew.cell? ⟨Br, 0, none⟩ = some (.int .i64 r) from hB)
            clear h4 hk3
            gi_wp2_with fail
            go_roundw
            case rel => exact ⟨.inr (.inr (.inl ⟨rfl, by rw [HNX.out]; exact hJ3⟩)), hB3⟩
            case measure => simp [intOf]
    · obtain ⟨bb, hb⟩ : ∃ bb, bt r 2 = bb := ⟨_, rfl⟩
      have hbx : (bits .and .i64 r 4 != 0) = bt r 2 := rfl
      have hby : (bits .and .i64 r (IntKind.i64.wrap 4) != 0) = bt r 2 := rfl
      rw [hb] at hbx hby
      cases bb
      · have hJN : J (L) wr := by rw [show L = bl (bt r 0) x.a ++ bl (bt r 1) x.b by rw [hL, hb]; simp [bl]]; exact hJs
        clear hJs hb
        have hJD := fun n => hJ _ wr (wr.drewN n) none hJN (grown_drewN wr n) (by simp)
        have HD := Hid.mk' hJD
        clear hJD hJN hY hJ
        gi_wp2_with fail
        refine wpIn_region_quiet_lit rfl (by kernel_rfl) (by kernel_rfl) ?_
        repeat (gi_big_quiet_step (fail))
        refine Go.BigFrame.wpQuietIn_skip ?ask rfl ?_
        case ask => exact fun _ _ _ _ => trivial
        simp only [Act.put, List.setIfInBounds_toArray, List.set_cons_succ, List.set_cons_zero]
        repeat (gi_big_quiet_step (fail))
        refine wpQuietIn_nil ?_
        rintro _ ⟨nq, rfl⟩
        gi_wp2_with fail
        go_roundw
        case rel => exact ⟨.inr (.inr (.inr ⟨rfl, HD.out _⟩)), hB⟩
        case measure => simp [intOf]
      · have hJd := hJ _ wr wr.drew none hJs (grown_drewN wr 1) (by simp)
        obtain ⟨fn, tmps, assign, body, hy, hR⟩ := hY _ x.c _ hJd (by rw [hL, hb]; simp [bl]; try omega)
        have HNX := Hid.mk' (show L = (bl (bt r 0) x.a ++ bl (bt r 1) x.b) ++ [x.c] by rw [hL, hb]; simp [bl])
        have HPX : Hid (bl (bt r 0) x.a ++ bl (bt r 1) x.b ++ [x.c] <+: L) := (by rw [show bl (bt r 0) x.a ++ bl (bt r 1) x.b ++ [x.c] = L from HNX.out.symm]; exact List.prefix_refl _ : bl (bt r 0) x.a ++ bl (bt r 1) x.b ++ [x.c] <+: L)
        clear hb hJd hY hJ hJs
        gi_wp2_with fail
        gi_region_with_o (refine hR.mono ?_; rintro e W3 h3; obtain ⟨tt, rfl, h4⟩ := one_way h3; clear h3)
        all_goals
          cases tt
          · have hJx3 := h4.out.2 rfl
            clear h4
            gi_wp2_with fail
            refine bodyPost_ret (results_none rfl _ _ _) rfl ⟨⟨_, rfl⟩, .inr ⟨_, HPX.out, hJx3⟩⟩
          · obtain ⟨hJ3, hk3⟩ := h4.out.1 rfl
            have hB3 := kpC_cell hk3 (show wr.drew.cell? ⟨Br, 0, none⟩ = some (.int .i64 r) from hB)
            clear h4 hk3
            gi_wp2_with fail
            go_roundw
            case rel => exact ⟨.inr (.inr (.inr ⟨rfl, by rw [HNX.out]; exact hJ3⟩)), hB3⟩
            case measure => simp [intOf]
    · gi_wp2_with fail
      go_end0
      exact ⟨⟨_, rfl⟩, .inl ⟨_, rfl, hJs⟩⟩
end Go.Proofs.YtlkoigdnakmdlaaDoor

/- code.Reads: the function value that it hands back tells the registers that are read. -/
namespace Go.Proofs.YtlkoigdnakmdlaaDoor
open Go.RowKit Go.Shelf

/-- A function value tells a list. -/
structure Tells (W : World) (gf B C : Nat) (L : List Int) (N : Nat) : Prop where
  lb : B < W.heap.size
  lc : C < W.heap.size
  nb : N ≤ B
  nc : N ≤ C
  enters : ∀ args w, (callFunc gf args).run Tryd.prog w = .ok (.enter gf args) w
  stops : ∀ n, 1 ≤ n → SeqStopsK Fence.wide n Tryd.prog gf #[.pointer (some ⟨B, 0, none⟩), .pointer (some ⟨C, 0, none⟩)] encN (KpB B C) (fun ys => ys = L) (fun pre => pre <+: L) L.length W
theorem reads_stops (n Bx Br : Nat) (hn : 1 ≤ n) (x : Is) (r : Int) (w : World) (h0 : w.cell? ⟨Bx, 0, none⟩ = some (.int .i64 x.op)) (h1 : w.cell? ⟨Bx, 1, none⟩ = some (.int .i64 x.a)) (h2 : w.cell? ⟨Bx, 2, none⟩ = some (.int .i64 x.b)) (h3 : w.cell? ⟨Bx, 3, none⟩ = some (.int .i64 x.c)) (h4 : w.cell? ⟨Bx, 4, none⟩ = some (.int .i64 x.n)) (hr : w.cell? ⟨Br, 0, none⟩ = some (.int .i64 r)) (L : List Int) (hL : L = bl (bt r 0) x.a ++ bl (bt r 1) x.b ++ bl (bt r 2) x.c) :
    SeqStopsK Fence.wide n Tryd.prog 42 #[.pointer (some ⟨Bx, 0, none⟩), .pointer (some ⟨Br, 0, none⟩)] encN (KpB Bx Br) (fun ys => ys = L) (fun pre => pre <+: L) L.length w :=
  fun l J Jx W hW hJ _ hY j0 => reads1_in n l Bx Br hn x r L hL J Jx _ hJ hY W ((hW.cell (p := ⟨Bx, 0, none⟩) (lt_of_cell h0)).trans h0) ((hW.cell (p := ⟨Bx, 1, none⟩) (lt_of_cell h1)).trans h1) ((hW.cell (p := ⟨Bx, 2, none⟩) (lt_of_cell h2)).trans h2) ((hW.cell (p := ⟨Bx, 3, none⟩) (lt_of_cell h3)).trans h3) ((hW.cell (p := ⟨Bx, 4, none⟩) (lt_of_cell h4)).trans h4) ((hW.cell (p := ⟨Br, 0, none⟩) (lt_of_cell hr)).trans hr) j0

set_option maxHeartbeats 1000000 in
theorem reads_any (x : Is) (p : Int) (w : World) (ht : Tab w) : Calls Tryd.prog 26 #[x.val, .int .i64 p] w fun e w' => ∃ gf B C, e = .returned (.func (.func gf) #[] #[.pointer (some ⟨B, 0, none⟩), .pointer (some ⟨C, 0, none⟩)]) ∧ Below w.heap.size w w' ∧ Tells w' gf B C (rdL x p) w.heap.size := by
  have hb := Below.one (Below.refl _ w) (oX x)
  have x0 := new_cell w #[.int .i64 x.op, .int .i64 x.a, .int .i64 x.b, .int .i64 x.c, .int .i64 x.n] 27 0 (.int .i64 x.op) rfl
  have x1 := new_cell w #[.int .i64 x.op, .int .i64 x.a, .int .i64 x.b, .int .i64 x.c, .int .i64 x.n] 27 1 (.int .i64 x.a) rfl
  have x2 := new_cell w #[.int .i64 x.op, .int .i64 x.a, .int .i64 x.b, .int .i64 x.c, .int .i64 x.n] 27 2 (.int .i64 x.b) rfl
  have x3 := new_cell w #[.int .i64 x.op, .int .i64 x.a, .int .i64 x.b, .int .i64 x.c, .int .i64 x.n] 27 3 (.int .i64 x.c) rfl
  have x4 := new_cell w #[.int .i64 x.op, .int .i64 x.a, .int .i64 x.b, .int .i64 x.c, .int .i64 x.n] 27 4 (.int .i64 x.n) rfl
  unfold Is.val
  by_cases h : x.op = 19
  · have HA := Hid.mk' (arguments_any x.b p)
    have HL : Hid (rdL x p = argL x.b p) := if_pos h
    have hq : (x.op == 19) = true := by simp [h]
    clear h ht
    go_enter Tryd.func26, Tryd.ntmps26
    go_wp2_with (go_at_call 41; refine (HA.out _).mono ?_; rintro e w1 ⟨rfl, rfl⟩)
    go_ret
    refine ⟨_, _, _, rfl, Below.one (Below.one hb _) _, ⟨by simp, by simp, by omega, by omega, enters_of Tryd.func52 (by kernel_rfl) rfl, fun n hn => ?_⟩⟩
    rw [HL.out]
    refine args_stops n _ _ hn x.b p _ ?_ ?_
    · have := new_cell ((w.alloc (oX x)).alloc (.cells #[.int .i64 x.b] 3)) #[.int .i64 p] 3 0 (.int .i64 p) rfl
      rwa [World.size_alloc, World.size_alloc] at this
    · have := cell_kept_below (new_cell (w.alloc (oX x)) #[.int .i64 x.b] 3 0 (.int .i64 x.b) rfl) (Below.one (Below.refl _ _) (.cells #[.int .i64 p] 3))
      rwa [World.size_alloc] at this
  · have HR := Hid.mk' (rowOf_any x.op _ (ht.stay hb))
    have HL : Hid (rdL x p = bl (bt (rwOf x.op).reads 0) x.a ++ bl (bt (rwOf x.op).reads 1) x.b ++ bl (bt (rwOf x.op).reads 2) x.c) := (by unfold rdL; rw [if_neg h, fldL_eq] : rdL x p = _)
    have hq : (x.op == 19) = false := beq_no h
    unfold Rw.val at HR
    generalize rwOf x.op = r at *
    obtain ⟨r0, r1, r2, r3, r4, r5⟩ := r
    simp only at HR HL
    have hfd := fld_row3
    clear h ht
    go_enter Tryd.func26, Tryd.ntmps26
    go_wp2_with (go_at_call 28; refine HR.out.mono ?_; rintro e w1 ⟨rfl, hb1⟩)
    go_ret
    have hs1 := hb1.size
    rw [World.size_alloc] at hs1
    have hb2 := Below.one hb1 (.cells #[.int .i64 r3] 3)
    refine ⟨_, _, _, rfl, Below.on hb hb2, ⟨by simp; omega, by simp, Nat.le_refl _, by omega, enters_of Tryd.func42 (by kernel_rfl) rfl, fun n hn => ?_⟩⟩
    exact reads_stops n _ _ hn x r3 _ (cell_kept_below x0 hb2) (cell_kept_below x1 hb2) (cell_kept_below x2 hb2) (cell_kept_below x3 hb2) (cell_kept_below x4 hb2) (new_cell w1 #[.int .i64 r3] 3 0 _ rfl) _ HL.out
end Go.Proofs.YtlkoigdnakmdlaaDoor

/- Rows that the call owns: what is appended to them, and that they are lists. -/
namespace Go.Proofs.YtlkoigdnakmdlaaDoor
open Go.RowKit Go.Sort

theorem flat_len {α : Type} {f : α → List Value} {k : Nat} (hf : ∀ x, (f x).length = k) (l : List α) : (l.flatMap f).length = l.length * k := by
  induction l with
  | nil => simp
  | cons x r ih => rw [List.flatMap_cons, List.length_append, hf, ih, List.length_cons, Nat.add_mul]; omega
theorem flatC_at {α : Type} {f : α → List Value} {k : Nat} (hf : ∀ x, (f x).length = k) (r : List Value) : ∀ (l : List α) (i : Nat) (x : α) (j : Nat), l[i]? = some x → j < k → (l.flatMap f ++ r)[i * k + j]? = (f x)[j]?
  | [], i, x, j, h, _ => by simp at h
  | y :: l, 0, x, j, h, hj => by
    simp at h; subst h
    rw [List.flatMap_cons, List.append_assoc, List.getElem?_append_left (by rw [hf]; omega)]; simp
  | y :: l, i + 1, x, j, h, hj => by
    rw [List.flatMap_cons, List.append_assoc, List.getElem?_append_right (by rw [hf, Nat.add_mul]; omega), hf]
    have := flatC_at hf r l i x j (by simpa using h) hj
    rw [← this]; congr 1; rw [Nat.add_mul]; omega
/-- The cells of a list that came in, as what is appended. -/
theorem src_news {W : World} {a : Option Addr} {α : Type} {f : α → List Value} {k : Nat} {l : List α} (h : RowIn W a k (l.map f)) (hf : ∀ x, (f x).length = k) (hk : 0 < k) : ∀ ad, a = some ad → ∀ j u, (l.flatMap f)[j]? = some u → W.cell? (ad.add j) = some u := by
  intro ad e j u hj
  have hjl := (List.getElem?_eq_some_iff.1 hj).1
  rw [flat_len hf] at hjl
  have hq : j / k < l.length := (Nat.div_lt_iff_lt_mul hk).2 hjl
  have hr : j % k < k := Nat.mod_lt _ hk
  have hd : j / k * k + j % k = j := Nat.div_add_mod' j k
  have hat := flatC_at hf [] l (j / k) l[j / k] (j % k) (List.getElem?_eq_getElem hq) hr
  rw [List.append_nil, hd, hj] at hat
  obtain ⟨b, o, e', hc⟩ := h (j / k) (f l[j / k]) (by simp [hq])
  rw [e] at e'
  cases e'
  have := hc (j % k) u hat.symm
  rw [hd] at this
  rw [Addr.add_lit]
  exact this
theorem rowIn_none {W : World} {a : Option Addr} {α : Type} {f : α → List Value} {k : Nat} {l : List α} (h : RowIn W a k (l.map f)) : a = none → l.length = 0 := by
  intro e
  cases l with
  | nil => rfl
  | cons x r => obtain ⟨b, o, e', _⟩ := h 0 (f x) (by simp); rw [e] at e'; cases e'

theorem gown_form {W : World} {N n sz : Nat} {T : TypeId} {v : Value} {xs : List Value} (h : W.ownsRow N T sz v n xs) : ∃ ao cap, v = .slice ao n cap := by
  rcases h.2 with ⟨rfl, rfl⟩ | ⟨g', cap, cur, rfl, _⟩
  · exact ⟨_, _, rfl⟩
  · exact ⟨_, _, rfl⟩
/-- A row that is owned is a list. -/
theorem own_row {W : World} {N n k : Nat} {T : TypeId} {a : Option Addr} {c : Nat} {α : Type} {f : α → List Value} {l : List α} (h : W.ownsRow N T k (.slice a n c) n (l.flatMap f)) (hf : ∀ x, (f x).length = k) (hk : 0 < k) : RowIn W a k (l.map f) := by
  intro i cs hi
  rw [List.getElem?_map, Option.map_eq_some_iff] at hi
  obtain ⟨x, hx, rfl⟩ := hi
  have hil := (List.getElem?_eq_some_iff.1 hx).1
  have hlen := h.1
  rw [flat_len hf] at hlen
  rcases h.2 with ⟨e, h0⟩ | ⟨g, cap, cur, e, h1, h2, h3, h4, h5, h6⟩
  · have : l.length * k = 0 := by rw [hlen, h0]; simp
    rcases Nat.mul_eq_zero.1 this with h | h <;> omega
  · cases e
    refine ⟨g, 0, rfl, fun j v hj => ?_⟩
    have hjk : j < k := by have := (List.getElem?_eq_some_iff.1 hj).1; rw [hf] at this; exact this
    have hat := flatC_at hf [] l i x j hx hjk
    rw [List.append_nil, hj, ← h6, List.getElem?_take] at hat
    split at hat
    · rw [Lib.cell_of_heap h2, ← Array.getElem?_toList, Nat.zero_add]; exact hat
    · cases hat
/-- Blocks of rows of other types are others. -/
theorem own_ne {W : World} {N N' n n' sz sz' : Nat} {T T' : TypeId} {v v' : Value} {xs xs' : List Value} (h : W.ownsRow N T sz v n xs) (h' : W.ownsRow N' T' sz' v' n' xs') (hT : T ≠ T') : v.ownBlock = none ∨ v.ownBlock ≠ v'.ownBlock := by
  rcases h.2 with ⟨rfl, _⟩ | ⟨g, cap, cur, rfl, h1, h2, _⟩
  · exact .inl rfl
  · refine .inr fun e => ?_
    rcases h'.2 with ⟨rfl, _⟩ | ⟨g', cap', cur', rfl, h1', h2', _⟩
    · simp [Value.ownBlock] at e
    · have : g = g' := by simpa [Value.ownBlock] using e
      subst this
      rw [h2] at h2'
      simp at h2'
      exact hT h2'.2
/-- A row stays where a block of another type is written. -/
theorem own_set {W : World} {N n sz : Nat} {T T' : TypeId} {v : Value} {xs : List Value} {b : Nat} {cs : Array Value} {fz : Nat × Nat} (h : W.ownsRow N T sz v n xs) (hb : W.heap[b]? = some (.cells cs T' fz)) (hT : T ≠ T') (i : Nat) (u : Value) : (W.setCell ⟨b, i, none⟩ u).ownsRow N T sz v n xs := by
  refine ⟨h.1, ?_⟩
  rcases h.2 with h0 | ⟨g, cap, cur, rfl, h1, h2, h3⟩
  · exact .inl h0
  · refine .inr ⟨g, cap, cur, rfl, h1, ?_, h3⟩
    have hne : g ≠ b := fun e => by
      subst e
      rw [h2] at hb
      simp at hb
      exact hT hb.2.1
    exact (Below.heap_setCell _ _ _ _ hne).trans h2
theorem own_stay {W W' : World} {N n sz : Nat} {T : TypeId} {v : Value} {xs : List Value} (h : W.ownsRow N T sz v n xs) (hb : Below W.heap.size W W') : W'.ownsRow N T sz v n xs := by
  refine ⟨h.1, ?_⟩
  rcases h.2 with h0 | ⟨g, cap, cur, rfl, h1, h2, h3⟩
  · exact .inl h0
  · exact .inr ⟨g, cap, cur, rfl, h1, (hb.block _ (Array.getElem?_eq_some_iff.1 h2).1).trans h2, h3⟩
theorem own_mono {W : World} {N N' n sz : Nat} {T : TypeId} {v : Value} {xs : List Value} (h : W.ownsRow N T sz v n xs) (hN : N' ≤ N) : W.ownsRow N' T sz v n xs := by
  refine ⟨h.1, ?_⟩
  rcases h.2 with h0 | ⟨g, cap, cur, rfl, h1, h2, h3⟩
  · exact .inl h0
  · exact .inr ⟨g, cap, cur, rfl, Nat.le_trans hN h1, h2, h3⟩
theorem own_base {W : World} {N n sz : Nat} {T : TypeId} {v : Value} {xs : List Value} (h : W.ownsRow N T sz v n xs) : ∀ k, v.ownBlock = some k → N ≤ k := fun k hk => (h.lt k hk).1
theorem row_new (W : World) (T : TypeId) (sz : Nat) : (W.alloc (.cells #[] T)).ownsRow W.heap.size T sz (.slice (some ⟨W.heap.size, 0, none⟩) 0 0) 0 [] :=
  ⟨by simp, .inr ⟨W.heap.size, 0, #[], rfl, Nat.le_refl _, heap_alloc_new _ _, Nat.le_refl _, by unfold maxLen; omega, by simp, by simp⟩⟩
theorem info_parts {o : Option TypeInfo} {z : Option Value} {s b : Nat} (h : o.map (fun i => (i.zero, i.size, i.bytes)) = some (z, s, b)) : ∃ i, o = some i ∧ i.zero = z ∧ i.size = s ∧ i.bytes = b := by
  cases o with
  | none => simp at h
  | some i => simp at h; exact ⟨i, rfl, h.1, h.2.1, h.2.2⟩

/-- append of a list that came in (or of none) to a row of the call's own. -/
theorem run_append_ownS {P : Program} (w : World) (base : Nat) (t ty e : TypeId) (i : TypeInfo) (z : Value) (size bytes : Nat) (ht : P.underlying t = some (.slice e)) (hi : P.info? e = some i) (hz : i.zero = some z)
    (hsize : i.size = size) (hby : i.bytes = bytes) (hzs : z.cells.size = size) (hsz : 0 < size)
    (v : Value) (n : Nat) (xs : List Value) (hown : w.ownsRow base e size v n xs)
    (a : Option Addr) (m c : Nat) (news : List Value) (hl : news.length = m * size) (hnone : a = none → m = 0) (hnews : ∀ ad, a = some ad → ∀ j u, news[j]? = some u → w.cell? (ad.add j) = some u) (h1 : ∀ u ∈ news, u.oneCell' = true)
    (h63 : n + m ≤ maxLen) (hbytes : (n + m) * bytes ≤ 140737488355328) (hbase : base ≤ w.heap.size) :
    ∃ v' w', (Builtin.append_ #[t, t] ty #[v, .slice a m c]).run P w = .ok v' w' ∧ w'.ownsRow base e size v' (n + m) (xs ++ news) ∧ w.grownBy w' v.ownBlock := by
  cases a with
  | some ad =>
    obtain ⟨v', w', h1, h2, h3, _⟩ := run_append_own (P := P) w base t ty e i z size bytes ht hi hz hsize hby hzs hsz v n xs hown ad m c news hl (hnews ad rfl) h1 h63 hbytes hbase
    exact ⟨v', w', h1, h2, h3⟩
  | none =>
    obtain rfl := hnone rfl
    have hn0 : news = [] := List.eq_nil_of_length_eq_zero (by simpa using hl)
    subst hn0
    refine ⟨v, w, ?_, by simpa using hown, ⟨rfl, rfl, rfl, Nat.le_refl _, fun _ _ _ => rfl⟩⟩
    rcases hown.2 with ⟨rfl, rfl⟩ | ⟨g, cap, cur, rfl, hbg, hg, hnc, hcm, hcs, htake⟩
    · simp [Builtin.append_, run_underlying ht, sizeOf, typeInfo, hi, Builtin.lenOf, Builtin.firstCells]
    · simp [Builtin.append_, run_underlying ht, sizeOf, typeInfo, hi, Builtin.lenOf, hnc, Builtin.firstCells, storeCells]
theorem wpList_append_ownS {P : Program} (w : World) {ops : Array Oper} {rest : List Oper} {o : Oper} {a : Act} {Q : Exit → Act → World → Prop} (hgd : o.guard = none) (s x : Operand) (t : TypeId)
    (ho : o.op = .call { callee := .builtin .append, args := #[s, x], argTypes := #[t, t] })
    (base : Nat) (e : TypeId) (i : TypeInfo) (z : Value) (size bytes : Nat) (ht : P.underlying t = some (.slice e)) (hi : P.info? e = some i) (hz : i.zero = some z)
    (hsize : i.size = size) (hby : i.bytes = bytes) (hzs : z.cells.size = size) (hsz : 0 < size)
    (v : Value) (n : Nat) (xs : List Value) (hs : a.eval s = v) (hown : w.ownsRow base e size v n xs)
    (ad : Option Addr) (m c : Nat) (news : List Value) (hx : a.eval x = .slice ad m c) (hl : news.length = m * size) (hnone : ad = none → m = 0) (hnews : ∀ ad', ad = some ad' → ∀ j u, news[j]? = some u → w.cell? (ad'.add j) = some u) (h1 : ∀ u ∈ news, u.oneCell' = true)
    (h63 : n + m ≤ maxLen) (hbytes : (n + m) * bytes ≤ 140737488355328) (hbase : base ≤ w.heap.size)
    (h : ∀ v' w', w'.ownsRow base e size v' (n + m) (xs ++ news) → w.grownBy w' v.ownBlock → wpList P ops Q rest (a.put o.dst v') w') : wpList P ops Q (o :: rest) a w := by
  obtain ⟨v', w', hr, h2, h3⟩ := run_append_ownS (P := P) w base t o.type e i z size bytes ht hi hz hsize hby hzs hsz v n xs hown ad m c news hl hnone hnews h1 h63 hbytes hbase
  refine wpList_plain hgd fun K hK => ?_
  unfold Oper.wp execOp
  simp only [ho, resolve, invoke, builtin, Sem.run_bind, Sem.run_pure, Result.andThen_ok, List.map_toArray, List.map_cons, List.map_nil, hs, hx, hr]
  exact hK _ _ (h v' w' h2 h3)
theorem Tryd.infoI : (Tryd.prog.info? 2).map (fun i => (i.zero, i.size, i.bytes)) = some (some (.int .i64 0), 1, 8) := by kernel_rfl
theorem Tryd.infoN : (Tryd.prog.info? 3).map (fun i => (i.zero, i.size, i.bytes)) = some (some (.int .i64 0), 1, 8) := by kernel_rfl
theorem Tryd.infoP : (Tryd.prog.info? 71).map (fun i => (i.zero, i.size, i.bytes)) = some (some (.agg #[.int .i64 0, .int .i64 0]), 2, 16) := by kernel_rfl
theorem Tryd.infoX : (Tryd.prog.info? 27).map (fun i => (i.zero, i.size, i.bytes)) = some (some (.agg #[.int .i64 0, .int .i64 0, .int .i64 0, .int .i64 0, .int .i64 0]), 5, 40) := by kernel_rfl
theorem Tryd.infoF : (Tryd.prog.info? 46).map (fun i => (i.zero, i.size, i.bytes)) = some (some (.agg #[.string ⟨#[]⟩, .slice none 0 0, .int .i64 0, .int .i64 0, .slice none 0 0]), 5, 80) := by kernel_rfl
end Go.Proofs.YtlkoigdnakmdlaaDoor
