/- Modules as data, with the addresses at which their lists lie; what it is that a world holds such a module. Plain facts on bytes and lists that the walks of package scan and of its reference share: no program stands in it. What is said of operations and modules: plain. -/
import Derived.WalkKit
import Derived.WalkSpells
import Derived.WalkLawsBesides
import Derived.ProofKit
import Derived.BigQuiet
import Derived.Lib.Walk
import Derived.Below
namespace Go.Proofs.YtfmkjdfidenfkaaDoor
open Go.RowKit

theorem Hid.mk' {p : Prop} (h : p) : Hid p := h
theorem Below.on {A B C : World} (h : Below A.heap.size A B) (k : Below B.heap.size B C) : Below A.heap.size A C := h.trans (k.mono h.size)
theorem Below.one {A B : World} (h : Below A.heap.size A B) (o : Obj) : Below A.heap.size A (B.alloc o) := h.alloc h.size o
theorem ret_int {k : IntKind} {a b : Int} (h : a = b) : Ending.returned (.int k a) = .returned (.int k b) := by rw [h]
theorem ret_bool {a b : Bool} (h : a = b) : Ending.returned (.bool a) = .returned (.bool b) := by rw [h]
theorem ret_val {a b : Value} (h : a = b) : Ending.returned a = .returned b := by rw [h]
theorem bne_of {a b : Int} (h : a ≠ b) : (a != b) = true := by simp only [bne_iff_ne]; exact h
theorem beq_no {a b : Int} (h : a ≠ b) : (a == b) = false := by rw [beq_eq_false_iff_ne]; exact h
theorem bne_no {a b : Int} (h : a = b) : (a != b) = false := by simp [h]

/-- Numbers of 64 bits. -/
def I64 (n : Int) : Prop := -9223372036854775808 ≤ n ∧ n ≤ 9223372036854775807
theorem I64.wrap {n : Int} (h : I64 n) : IntKind.i64.wrap n = n := by rw [IntKind.wrap_i64]; unfold I64 at h; omega

/-- A list's elements, of so many cells each, lie at an address. -/
def RowIn (W : World) (a : Option Addr) (sz : Nat) (rows : List (List Value)) : Prop :=
  ∀ i cs, rows[i]? = some cs → ∃ b o, a = some ⟨b, o, none⟩ ∧ ∀ j v, cs[j]? = some v → W.cell? ⟨b, o + (i * sz + j), none⟩ = some v
theorem lt_of_cell {W : World} {p : Addr} {v : Value} (h : W.cell? p = some v) : p.block < W.heap.size := by
  by_cases hlt : p.block < W.heap.size
  · exact hlt
  · unfold World.cell? at h
    rw [Array.getElem?_eq_none (by omega)] at h
    cases h
theorem RowIn.below {W W' : World} {a : Option Addr} {sz : Nat} {rows : List (List Value)} (h : RowIn W a sz rows) (hb : Below W.heap.size W W') : RowIn W' a sz rows := by
  intro i cs hi
  obtain ⟨b, o, e, hc⟩ := h i cs hi
  refine ⟨b, o, e, fun j v hj => ?_⟩
  have := hc j v hj
  exact (hb.cell (lt_of_cell this)).trans this

/-- A span; an instruction; a function; a module. -/
abbrev Sp := Int × Int
def spC (s : Sp) : List Value := [.int .i64 s.1, .int .i64 s.2]
def spV (s : Sp) : Value := .agg #[.int .i64 s.1, .int .i64 s.2]
def spOk (s : Sp) : Prop := I64 s.1 ∧ I64 s.2
structure Is where
  op : Int
  a : Int
  b : Int
  c : Int
  n : Int
deriving DecidableEq
def Is.cells (x : Is) : List Value := [.int .i64 x.op, .int .i64 x.a, .int .i64 x.b, .int .i64 x.c, .int .i64 x.n]
def Is.val (x : Is) : Value := .agg #[.int .i64 x.op, .int .i64 x.a, .int .i64 x.b, .int .i64 x.c, .int .i64 x.n]
def Is.Ok (x : Is) : Prop := I64 x.op ∧ I64 x.a ∧ I64 x.b ∧ I64 x.c ∧ I64 x.n
structure Fn where
  name : ByteArray
  pa : Option Addr
  pc : Nat
  params : List Sp
  regs : Int
  words : Int
  ca : Option Addr
  cc : Nat
  code : List Is
def Fn.cells (f : Fn) : List Value := [.string f.name, .slice f.pa f.params.length f.pc, .int .i64 f.regs, .int .i64 f.words, .slice f.ca f.code.length f.cc]
def Fn.val (f : Fn) : Value := .agg #[.string f.name, .slice f.pa f.params.length f.pc, .int .i64 f.regs, .int .i64 f.words, .slice f.ca f.code.length f.cc]
structure Mo where
  ta : Option Addr
  tc : Nat
  ths : List Int
  fa : Option Addr
  fc : Nat
  funcs : List Fn
def Mo.val (m : Mo) : Value := .agg #[.slice m.ta m.ths.length m.tc, .slice m.fa m.funcs.length m.fc]
def thC (z : Int) : List Value := [.int .i64 z]

/-- Lists that lie in memory. -/
def Thr (W : World) (a : Option Addr) (l : List Int) : Prop := l.length * 8 ≤ 140737488351232 ∧ RowIn W a 1 (l.map thC)
def Sps (W : World) (a : Option Addr) (l : List Sp) : Prop := l.length * 16 ≤ 140737488351232 ∧ RowIn W a 2 (l.map spC)
def Iss (W : World) (a : Option Addr) (l : List Is) : Prop := l.length * 40 ≤ 140737488351232 ∧ RowIn W a 5 (l.map Is.cells)
def Fns (W : World) (a : Option Addr) (l : List Fn) : Prop := l.length * 80 ≤ 140737488351232 ∧ RowIn W a 5 (l.map Fn.cells)
def Fn.In (W : World) (f : Fn) : Prop := f.name.size ≤ 140737488351232 ∧ I64 f.regs ∧ I64 f.words ∧ Sps W f.pa f.params ∧ (∀ p ∈ f.params, spOk p) ∧ Iss W f.ca f.code ∧ ∀ x ∈ f.code, x.Ok
def Mo.In (W : World) (m : Mo) : Prop := Thr W m.ta m.ths ∧ (∀ z ∈ m.ths, I64 z) ∧ Fns W m.fa m.funcs ∧ ∀ f ∈ m.funcs, f.In W
theorem Thr.stay {W W' : World} (hb : Below W.heap.size W W') {a : Option Addr} {l : List Int} (h : Thr W a l) : Thr W' a l := ⟨h.1, h.2.below hb⟩
theorem Sps.stay {W W' : World} (hb : Below W.heap.size W W') {a : Option Addr} {l : List Sp} (h : Sps W a l) : Sps W' a l := ⟨h.1, h.2.below hb⟩
theorem Iss.stay {W W' : World} (hb : Below W.heap.size W W') {a : Option Addr} {l : List Is} (h : Iss W a l) : Iss W' a l := ⟨h.1, h.2.below hb⟩
theorem Fns.stay {W W' : World} (hb : Below W.heap.size W W') {a : Option Addr} {l : List Fn} (h : Fns W a l) : Fns W' a l := ⟨h.1, h.2.below hb⟩
theorem Fn.In.stay {W W' : World} (hb : Below W.heap.size W W') {f : Fn} (h : f.In W) : f.In W' := ⟨h.1, h.2.1, h.2.2.1, h.2.2.2.1.stay hb, h.2.2.2.2.1, h.2.2.2.2.2.1.stay hb, h.2.2.2.2.2.2⟩
theorem Mo.In.stay {W W' : World} (hb : Below W.heap.size W W') {m : Mo} (h : m.In W) : m.In W' := ⟨h.1.stay hb, h.2.1, h.2.2.1.stay hb, fun f hf => (h.2.2.2 f hf).stay hb⟩

theorem thr_at {W : World} {a : Option Addr} {l : List Int} (h : Thr W a l) {i : Nat} (hi : i < l.length) : ∃ b o, a = some ⟨b, o, none⟩ ∧ W.cell? ⟨b, o + i, none⟩ = some (.int .i64 l[i]) := by
  obtain ⟨b, o, e, hc⟩ := h.2 i (thC l[i]) (by simp [hi])
  exact ⟨b, o, e, by simpa using hc 0 _ rfl⟩
theorem sps_at {W : World} {a : Option Addr} {l : List Sp} (h : Sps W a l) {i : Nat} (hi : i < l.length) : ∃ b o, a = some ⟨b, o, none⟩ ∧ W.cell? ⟨b, o + i * 2, none⟩ = some (.int .i64 l[i].1) ∧ W.cell? ⟨b, o + i * 2 + 1, none⟩ = some (.int .i64 l[i].2) := by
  obtain ⟨b, o, e, hc⟩ := h.2 i (spC l[i]) (by simp [hi])
  exact ⟨b, o, e, hc 0 _ rfl, hc 1 _ rfl⟩
theorem iss_at {W : World} {a : Option Addr} {l : List Is} (h : Iss W a l) {i : Nat} (hi : i < l.length) : ∃ b o, a = some ⟨b, o, none⟩ ∧ W.cell? ⟨b, o + i * 5, none⟩ = some (.int .i64 l[i].op) ∧ W.cell? ⟨b, o + i * 5 + 1, none⟩ = some (.int .i64 l[i].a) ∧ W.cell? ⟨b, o + i * 5 + 2, none⟩ = some (.int .i64 l[i].b) ∧ W.cell? ⟨b, o + i * 5 + 3, none⟩ = some (.int .i64 l[i].c) ∧ W.cell? ⟨b, o + i * 5 + 4, none⟩ = some (.int .i64 l[i].n) := by
  obtain ⟨b, o, e, hc⟩ := h.2 i l[i].cells (by simp [hi])
  exact ⟨b, o, e, hc 0 _ rfl, hc 1 _ rfl, hc 2 _ rfl, hc 3 _ rfl, hc 4 _ rfl⟩
theorem fns_at {W : World} {a : Option Addr} {l : List Fn} (h : Fns W a l) {i : Nat} (hi : i < l.length) : ∃ b o, a = some ⟨b, o, none⟩ ∧ W.cell? ⟨b, o + i * 5, none⟩ = some (.string l[i].name) ∧ W.cell? ⟨b, o + i * 5 + 1, none⟩ = some (.slice l[i].pa l[i].params.length l[i].pc) ∧ W.cell? ⟨b, o + i * 5 + 2, none⟩ = some (.int .i64 l[i].regs) ∧ W.cell? ⟨b, o + i * 5 + 3, none⟩ = some (.int .i64 l[i].words) ∧ W.cell? ⟨b, o + i * 5 + 4, none⟩ = some (.slice l[i].ca l[i].code.length l[i].cc) := by
  obtain ⟨b, o, e, hc⟩ := h.2 i l[i].cells (by simp [hi])
  exact ⟨b, o, e, hc 0 _ rfl, hc 1 _ rfl, hc 2 _ rfl, hc 3 _ rfl, hc 4 _ rfl⟩
end Go.Proofs.YtfmkjdfidenfkaaDoor
namespace Go.Proofs.YtfmkjdfidenfkaaDoor

def letB (n : Int) : Bool := decide (97 ≤ n ∧ n ≤ 122)
def digB (n : Int) : Bool := decide (48 ≤ n ∧ n ≤ 57)
def lodB (n : Int) : Bool := letB n || digB n
def isLet (c : UInt8) : Bool := letB c.toNat
def isDig (c : UInt8) : Bool := digB c.toNat
def isLod (c : UInt8) : Bool := lodB c.toNat

def rowLen (p : UInt8 → Bool) (l : List UInt8) : Nat := (l.takeWhile p).length

theorem rowLen_le (p : UInt8 → Bool) (l : List UInt8) : rowLen p l ≤ l.length := by
  unfold rowLen; exact (List.takeWhile_prefix p).length_le

theorem rowLen_nil (p : UInt8 → Bool) : rowLen p [] = 0 := rfl
theorem rowLen_cons (p : UInt8 → Bool) (c : UInt8) (l : List UInt8) : rowLen p (c :: l) = if p c then rowLen p l + 1 else 0 := by
  unfold rowLen; rw [List.takeWhile_cons]; split <;> simp

theorem rowLen_hit (p : UInt8 → Bool) : ∀ (l : List UInt8) (k : Nat), k ≤ rowLen p l → (h : k < l.length) → p l[k] = true → k + 1 ≤ rowLen p l
  | [], k, _, h, _ => by simp at h
  | c :: l, 0, _, _, hp => by rw [rowLen_cons, if_pos (by simpa using hp)]; omega
  | c :: l, k + 1, hk, h, hp => by
    rw [rowLen_cons] at hk ⊢
    by_cases hc : p c = true
    · rw [if_pos hc] at hk ⊢
      have := rowLen_hit p l k (by omega) (by simpa using h) (by simpa using hp)
      omega
    · rw [if_neg hc] at hk; omega

theorem rowLen_miss (p : UInt8 → Bool) : ∀ (l : List UInt8) (k : Nat), k ≤ rowLen p l → (h : k < l.length) → p l[k] = false → rowLen p l = k
  | [], k, _, h, _ => by simp at h
  | c :: l, 0, _, _, hp => by rw [rowLen_cons, if_neg (by simpa using hp)]
  | c :: l, k + 1, hk, h, hp => by
    rw [rowLen_cons] at hk ⊢
    by_cases hc : p c = true
    · rw [if_pos hc] at hk ⊢
      have := rowLen_miss p l k (by omega) (by simpa using h) (by simpa using hp)
      omega
    · rw [if_neg hc] at hk; omega

/-- The bytes that are passed over: blanks, and a remark up to ahead of its line's end. -/
def blankB (c : UInt8) : Bool := (c.toNat : Int) == 32 || (c.toNat : Int) == 9 || (c.toNat : Int) == 10 || (c.toNat : Int) == 13

theorem blank_of32 {c : UInt8} (h : ((c.toNat : Int) == 32) = true) : blankB c = true := by simp [blankB, h]
theorem blank_of9 {c : UInt8} (h : ((c.toNat : Int) == 9) = true) : blankB c = true := by simp [blankB, h]
theorem blank_of10 {c : UInt8} (h : ((c.toNat : Int) == 10) = true) : blankB c = true := by simp [blankB, h]
theorem blank_of13 {c : UInt8} (h : ((c.toNat : Int) == 13) = true) : blankB c = true := by simp [blankB, h]
theorem blank_not {c : UInt8} (h1 : ((c.toNat : Int) == 32) = false) (h2 : ((c.toNat : Int) == 9) = false) (h3 : ((c.toNat : Int) == 10) = false) (h4 : ((c.toNat : Int) == 13) = false) : blankB c = false := by
  unfold blankB; rw [h1, h2, h3, h4]; rfl

/-- How many bytes are passed over (true: within a remark). -/
def skip : Bool → List UInt8 → Nat
  | _, [] => 0
  | false, c :: r => if blankB c then skip false r + 1 else if (c.toNat : Int) == 35 then skip true r + 1 else 0
  | true, c :: r => if (c.toNat : Int) == 10 then skip false r + 1 else skip true r + 1

theorem skip_le : ∀ (b : Bool) (l : List UInt8), skip b l ≤ l.length
  | _, [] => by simp [skip]
  | false, c :: r => by have h1 := skip_le false r; have h2 := skip_le true r; rw [skip]; split; · simpa using h1
                        split; · simpa using h2
                        simp
  | true, c :: r => by have h1 := skip_le false r; have h2 := skip_le true r; rw [skip]; split; · simpa using h1
                       simpa using h2

/-- Where what is passed over from k on ends. -/
def passEnd (b : Bool) (l : List UInt8) (k : Nat) : Nat := k + skip b (l.drop k)

theorem passEnd_le (b : Bool) (l : List UInt8) (k : Nat) (h : k ≤ l.length) : passEnd b l k ≤ l.length := by
  unfold passEnd; have := skip_le b (l.drop k); rw [List.length_drop] at this; omega
theorem passEnd_ge (b : Bool) (l : List UInt8) (k : Nat) : k ≤ passEnd b l k := by unfold passEnd; omega
theorem passEnd_end (b : Bool) (l : List UInt8) (k : Nat) (h : l.length ≤ k) : passEnd b l k = k := by
  unfold passEnd; rw [List.drop_eq_nil_of_le h]; cases b <;> rfl
theorem passEnd_blank (l : List UInt8) (k : Nat) (h : k < l.length) (hb : blankB l[k] = true) : passEnd false l k = passEnd false l (k + 1) := by
  unfold passEnd; rw [List.drop_eq_getElem_cons h, skip, if_pos hb]; omega
theorem passEnd_hash (l : List UInt8) (k : Nat) (h : k < l.length) (hb : ((l[k].toNat : Int) == 35) = true) : passEnd false l k = passEnd true l (k + 1) := by
  have hn : blankB l[k] = false := by simp at hb; simp [blankB, hb]
  unfold passEnd; rw [List.drop_eq_getElem_cons h, skip, if_neg (by simp [hn]), if_pos hb]; omega
theorem passEnd_hash0 (l : List UInt8) (k : Nat) (h : k < l.length) (hb : ((l[k].toNat : Int) == 35) = true) : passEnd false l k = passEnd true l k := by
  rw [passEnd_hash l k h hb]
  unfold passEnd; rw [List.drop_eq_getElem_cons h, skip, if_neg (by simp at hb; simp [hb])]; omega
theorem passEnd_stop (l : List UInt8) (k : Nat) (h : k < l.length) (h1 : blankB l[k] = false) (h2 : ((l[k].toNat : Int) == 35) = false) : passEnd false l k = k := by
  unfold passEnd; rw [List.drop_eq_getElem_cons h, skip, if_neg (by simp [h1]), if_neg (by simp at h2; simp [h2])]; omega
theorem passEnd_line (l : List UInt8) (k : Nat) (h : k < l.length) (hb : ((l[k].toNat : Int) == 10) = true) : passEnd true l k = passEnd false l (k + 1) := by
  unfold passEnd; rw [List.drop_eq_getElem_cons h, skip, if_pos hb]; omega
theorem passEnd_line0 (l : List UInt8) (k : Nat) (h : k < l.length) (hb : ((l[k].toNat : Int) == 10) = true) : passEnd true l k = passEnd false l k := by
  rw [passEnd_line l k h hb, passEnd_blank l k h (by simp at hb; simp [blankB, hb])]
theorem passEnd_in (l : List UInt8) (k : Nat) (h : k < l.length) (hb : ((l[k].toNat : Int) == 10) = false) : passEnd true l k = passEnd true l (k + 1) := by
  unfold passEnd; rw [List.drop_eq_getElem_cons h, skip, if_neg (by simp at hb; simp [hb])]; omega

def wordB (l : List UInt8) : Bool := l == [119, 105, 100, 101, 110] || l == [102, 110] || l == [108, 101, 116] || l == [102, 111, 114] || l == [105, 110] || l == [105, 102] || l == [101, 108, 115, 101] || l == [115, 119, 105, 116, 99, 104] || l == [99, 97, 115, 101] || l == [98, 114, 101, 97, 107] || l == [114, 101, 116, 117, 114, 110]
theorem ba_len (s : ByteArray) : s.data.toList.length = s.size := by rw [Array.length_toList]; rfl
end Go.Proofs.YtfmkjdfidenfkaaDoor
namespace Go.Proofs.YtfmkjdfidenfkaaDoor
open Go.RowKit

/-- What is said of an operation: its word and weight, its registers, those that it reads, whether it writes, what its number is. -/
structure Rw where
  word : ByteArray
  weight : Int
  regs : Int
  reads : Int
  writes : Bool
  n : Int
def rwN : Nat → Rw
  | 0 => ⟨⟨#[114, 101, 116]⟩, 1, 1, 1, false, 0⟩
  | 1 => ⟨⟨#[115, 101, 116]⟩, 1, 1, 0, true, 1⟩
  | 2 => ⟨⟨#[109, 111, 118, 101]⟩, 1, 3, 2, true, 0⟩
  | 3 => ⟨⟨#[97, 100, 100]⟩, 1, 7, 6, true, 0⟩
  | 4 => ⟨⟨#[115, 117, 98]⟩, 1, 7, 6, true, 0⟩
  | 5 => ⟨⟨#[109, 117, 108]⟩, 3, 7, 6, true, 0⟩
  | 6 => ⟨⟨#[100, 105, 118]⟩, 8, 7, 6, true, 0⟩
  | 7 => ⟨⟨#[114, 101, 109]⟩, 8, 7, 6, true, 0⟩
  | 8 => ⟨⟨#[108, 101, 115, 115]⟩, 1, 7, 6, true, 0⟩
  | 9 => ⟨⟨#[101, 113, 117, 97, 108]⟩, 1, 7, 6, true, 0⟩
  | 10 => ⟨⟨#[110, 111, 116]⟩, 1, 3, 2, true, 0⟩
  | 11 => ⟨⟨#[108, 111, 97, 100]⟩, 2, 3, 2, true, 1⟩
  | 12 => ⟨⟨#[115, 116, 111, 114, 101]⟩, 2, 3, 3, false, 1⟩
  | 13 => ⟨⟨#[99, 104, 101, 99, 107]⟩, 1, 1, 1, false, 2⟩
  | 14 => ⟨⟨#[106, 117, 109, 112]⟩, 1, 0, 0, false, 3⟩
  | 15 => ⟨⟨#[105, 102]⟩, 1, 1, 1, false, 3⟩
  | 16 => ⟨⟨#[117, 110, 108, 101, 115, 115]⟩, 1, 1, 1, false, 3⟩
  | 17 => ⟨⟨#[99, 111, 117, 110, 116]⟩, 1, 3, 3, false, 3⟩
  | 18 => ⟨⟨#[115, 116, 101, 112]⟩, 1, 1, 1, true, 3⟩
  | 19 => ⟨⟨#[99, 97, 108, 108]⟩, 4, 3, 0, true, 4⟩
  | _ => ⟨⟨#[]⟩, 0, 0, 0, false, 0⟩
def knB (op : Int) : Bool := decide (0 ≤ op) && decide (op ≤ 19)
def rwOf (op : Int) : Rw := if 0 ≤ op ∧ op ≤ 19 then rwN op.toNat else ⟨⟨#[]⟩, 0, 0, 0, false, 0⟩
def Rw.val (r : Rw) : Value := .agg #[.string r.word, .int .i64 r.weight, .int .i64 r.regs, .int .i64 r.reads, .bool r.writes, .int .i64 r.n]
def Rw.cells (r : Rw) : List Value := [.string r.word, .int .i64 r.weight, .int .i64 r.regs, .int .i64 r.reads, .bool r.writes, .int .i64 r.n]
theorem rwOf_nat {k : Nat} (h : k < 20) : rwOf k = rwN k := by
  unfold rwOf; rw [if_pos (by omega)]; simp
theorem rwOf_no {op : Int} (h : ¬ (0 ≤ op ∧ op ≤ 19)) : rwOf op = ⟨⟨#[]⟩, 0, 0, 0, false, 0⟩ := if_neg h
/-- The twenty operations, one by one. -/
theorem op_cases {P : Int → Prop} {op : Int} (h0 : 0 ≤ op) (h1 : op ≤ 19) (p0 : P 0) (p1 : P 1) (p2 : P 2) (p3 : P 3) (p4 : P 4) (p5 : P 5) (p6 : P 6) (p7 : P 7) (p8 : P 8) (p9 : P 9) (p10 : P 10) (p11 : P 11) (p12 : P 12) (p13 : P 13) (p14 : P 14) (p15 : P 15) (p16 : P 16) (p17 : P 17) (p18 : P 18) (p19 : P 19) : P op := by
  have : op = 0 ∨ op = 1 ∨ op = 2 ∨ op = 3 ∨ op = 4 ∨ op = 5 ∨ op = 6 ∨ op = 7 ∨ op = 8 ∨ op = 9 ∨ op = 10 ∨ op = 11 ∨ op = 12 ∨ op = 13 ∨ op = 14 ∨ op = 15 ∨ op = 16 ∨ op = 17 ∨ op = 18 ∨ op = 19 := by omega
  rcases this with rfl | rfl | rfl | rfl | rfl | rfl | rfl | rfl | rfl | rfl | rfl | rfl | rfl | rfl | rfl | rfl | rfl | rfl | rfl | rfl <;> assumption

/-- Is one bit set? -/
def bt (r : Int) (i : Nat) : Bool := bits .and .i64 r (2 ^ i) != 0
/-- The register that is written. -/
def wrN (x : Is) : Int := if (rwOf x.op).writes then x.a else -1
/-- The registers that are read. -/
def argL (b : Int) (p : Int) : List Int := (List.range (min p 8).toNat).map fun (i : Nat) => wrap64 (b + (i : Int))
def fldL (x : Is) : List Int := (if bt (rwOf x.op).reads 0 then [x.a] else []) ++ (if bt (rwOf x.op).reads 1 then [x.b] else []) ++ (if bt (rwOf x.op).reads 2 then [x.c] else [])
def rdL (x : Is) (p : Int) : List Int := if x.op = 19 then argL x.b p else fldL x

/-- May a text be the name of a module's function? -/
def idB (l : List UInt8) : Bool := match l with | [] => false | c :: _ => decide (l.length ≤ 16) && isLet c && decide (rowLen isLod l = l.length)

/-- Where a name stands first. -/
def fndN : List Fn → ByteArray → Nat → Int
  | [], _, _ => -1
  | f :: r, s, i => if f.name.toList == s.toList then i else fndN r s (i + 1)
theorem fndN_drop {l : List Fn} {s : ByteArray} {j : Nat} (h : j < l.length) : fndN (l.drop j) s j = if l[j].name.toList == s.toList then (j : Int) else fndN (l.drop (j + 1)) s (j + 1) := by
  rw [List.drop_eq_getElem_cons h, fndN]

/-- Do thresholds rise? -/
def riseN : List Int → Nat → Option Nat
  | a :: b :: r, i => if b ≤ a then some (i + 1) else riseN (b :: r) (i + 1)
  | _, _ => none
/-- Which span is empty first? -/
def emptN : List Sp → Nat → Option Nat
  | [], _ => none
  | s :: r, i => if s.1 > s.2 then some i else emptN r (i + 1)
theorem emptN_drop {l : List Sp} {j : Nat} (h : j < l.length) : emptN (l.drop j) j = if l[j].1 > l[j].2 then some j else emptN (l.drop (j + 1)) (j + 1) := by
  rw [List.drop_eq_getElem_cons h, emptN]

/-- What is wrong with a function as a whole: the error and its place. -/
def headZ (m : Mo) (f : Fn) (k : Nat) : Int × Int :=
  if idB f.name.data.toList = false then (8, 0) else if fndN m.funcs f.name 0 < k then (9, 0) else if f.params.length > 8 then (3, 8) else
  match emptN f.params 0 with
  | some i => (40, i)
  | none => if f.regs < 1 ∨ f.regs > 64 ∨ f.regs < f.params.length then (95, 0) else if f.words < 0 ∨ f.words > 4096 then (96, 0) else if f.code.length < 1 ∨ f.code.length > 1024 then (97, 0) else (0, 0)
/-- What is wrong with a field. -/
def regZ (has : Bool) (r regs : Int) : Int := if has then (if r < 0 ∨ r ≥ regs then 61 else 0) else if r ≠ 0 then 62 else 0
/-- How many parameters the function of a number has. -/
def parN (m : Mo) (n : Int) : Int := match m.funcs[n.toNat]? with | some f => f.params.length | none => 0
/-- What is wrong with the number of an instruction. -/
def numZ (m : Mo) (f : Fn) (x : Is) : Int :=
  if (rwOf x.op).n = 0 then (if x.n ≠ 0 then 62 else 0)
  else if (rwOf x.op).n = 2 then (if x.n < 1 ∨ x.n > 4096 then 2 else 0)
  else if (rwOf x.op).n = 3 then (if x.n < 0 ∨ x.n ≥ f.code.length then 63 else 0)
  else if (rwOf x.op).n = 4 then (if x.n < 0 ∨ x.n ≥ m.funcs.length ∨ wrap64 (x.b + parN m x.n) > f.regs then 65 else 0)
  else 0
/-- What is wrong with an instruction. -/
def insZ (m : Mo) (f : Fn) (x : Is) : Int :=
  if knB x.op = false then 60 else
  if regZ (bt (rwOf x.op).regs 0) x.a f.regs ≠ 0 then regZ (bt (rwOf x.op).regs 0) x.a f.regs else
  if regZ (bt (rwOf x.op).regs 1) x.b f.regs ≠ 0 then regZ (bt (rwOf x.op).regs 1) x.b f.regs else
  if regZ (bt (rwOf x.op).regs 2) x.c f.regs ≠ 0 then regZ (bt (rwOf x.op).regs 2) x.c f.regs else numZ m f x
/-- What is wrong with the instructions of a function first, from one on; 0: nothing. -/
def codeN (m : Mo) (f : Fn) : List Is → Nat → Int × Int
  | [], _ => (0, 0)
  | x :: r, i => if insZ m f x ≠ 0 then (insZ m f x, i) else codeN m f r (i + 1)
theorem codeN_drop {m : Mo} {f : Fn} {l : List Is} {j : Nat} (h : j < l.length) : codeN m f (l.drop j) j = if insZ m f l[j] ≠ 0 then (insZ m f l[j], (j : Int)) else codeN m f (l.drop (j + 1)) (j + 1) := by
  rw [List.drop_eq_getElem_cons h, codeN]
def lastOp (f : Fn) : Int := match f.code[f.code.length - 1]? with | some x => x.op | none => 0
def codeZ (m : Mo) (f : Fn) : Int × Int :=
  if (codeN m f f.code 0).1 ≠ 0 then codeN m f f.code 0 else if lastOp f = 0 ∨ lastOp f = 14 ∨ lastOp f = 18 then (0, 0) else (64, (f.code.length : Int) - 1)
def headsN (m : Mo) : List Fn → Nat → Int × Int × Int
  | [], _ => (0, 0, 0)
  | f :: r, i => if (headZ m f i).1 ≠ 0 then ((headZ m f i).1, (i : Int), (headZ m f i).2) else headsN m r (i + 1)
theorem headsN_drop {m : Mo} {l : List Fn} {j : Nat} (h : j < l.length) : headsN m (l.drop j) j = if (headZ m l[j] j).1 ≠ 0 then ((headZ m l[j] j).1, (j : Int), (headZ m l[j] j).2) else headsN m (l.drop (j + 1)) (j + 1) := by
  rw [List.drop_eq_getElem_cons h, headsN]
def codesN (m : Mo) : List Fn → Nat → Int × Int × Int
  | [], _ => (0, 0, 0)
  | f :: r, i => if (codeZ m f).1 ≠ 0 then ((codeZ m f).1, (i : Int), (codeZ m f).2) else codesN m r (i + 1)
theorem codesN_drop {m : Mo} {l : List Fn} {j : Nat} (h : j < l.length) : codesN m (l.drop j) j = if (codeZ m l[j]).1 ≠ 0 then ((codeZ m l[j]).1, (j : Int), (codeZ m l[j]).2) else codesN m (l.drop (j + 1)) (j + 1) := by
  rw [List.drop_eq_getElem_cons h, codesN]
def wholeZ (m : Mo) : Int × Int × Int :=
  if m.ths.length > 16 then (3, 0, 16) else
  match riseN m.ths 0 with
  | some i => (66, 0, i)
  | none => if m.funcs.length > 32 then (3, 32, 0) else (0, 0, 0)
/-- What is wrong with a module first. -/
def mayZ (m : Mo) : Int × Int × Int :=
  if (wholeZ m).1 ≠ 0 then wholeZ m else if (headsN m m.funcs 0).1 ≠ 0 then headsN m m.funcs 0 else codesN m m.funcs 0
def fltV (z : Int × Int × Int) : Value := .agg #[.int .i64 z.1, .int .i64 z.2.1, .int .i64 z.2.2]

/-- Are they the same? -/
def samI : List Int → List Int → Bool
  | [], [] => true
  | x :: l, y :: t => x == y && samI l t
  | _, _ => false
def samP (x y : Sp) : Bool := x.1 == y.1 && x.2 == y.2
def samPs : List Sp → List Sp → Bool
  | [], [] => true
  | x :: l, y :: t => samP x y && samPs l t
  | _, _ => false
def samX (x y : Is) : Bool := x.op == y.op && (x.a == y.a && (x.b == y.b && (x.c == y.c && x.n == y.n)))
def samXs : List Is → List Is → Bool
  | [], [] => true
  | x :: l, y :: t => samX x y && samXs l t
  | _, _ => false
def samF (x y : Fn) : Bool := x.name.toList == y.name.toList && (x.regs == y.regs && (x.words == y.words && (samPs x.params y.params && samXs x.code y.code)))
def samFs : List Fn → List Fn → Bool
  | [], [] => true
  | x :: l, y :: t => samF x y && samFs l t
  | _, _ => false
def samM (p q : Mo) : Bool := samI p.ths q.ths && samFs p.funcs q.funcs
theorem samI_drop {l t : List Int} {j : Nat} (h : j < l.length) (h' : j < t.length) : samI (l.drop j) (t.drop j) = (l[j] == t[j] && samI (l.drop (j + 1)) (t.drop (j + 1))) := by
  rw [List.drop_eq_getElem_cons h, List.drop_eq_getElem_cons h', samI]
theorem samI_len : ∀ {l t : List Int}, l.length ≠ t.length → samI l t = false
  | [], [], h => by simp at h
  | [], _ :: _, _ => rfl
  | _ :: _, [], _ => rfl
  | x :: l, y :: t, h => by rw [samI, samI_len (by simpa using h), Bool.and_false]
theorem samPs_drop {l t : List Sp} {j : Nat} (h : j < l.length) (h' : j < t.length) : samPs (l.drop j) (t.drop j) = (samP l[j] t[j] && samPs (l.drop (j + 1)) (t.drop (j + 1))) := by
  rw [List.drop_eq_getElem_cons h, List.drop_eq_getElem_cons h', samPs]
theorem samPs_len : ∀ {l t : List Sp}, l.length ≠ t.length → samPs l t = false
  | [], [], h => by simp at h
  | [], _ :: _, _ => rfl
  | _ :: _, [], _ => rfl
  | x :: l, y :: t, h => by rw [samPs, samPs_len (by simpa using h), Bool.and_false]
theorem samXs_drop {l t : List Is} {j : Nat} (h : j < l.length) (h' : j < t.length) : samXs (l.drop j) (t.drop j) = (samX l[j] t[j] && samXs (l.drop (j + 1)) (t.drop (j + 1))) := by
  rw [List.drop_eq_getElem_cons h, List.drop_eq_getElem_cons h', samXs]
theorem samXs_len : ∀ {l t : List Is}, l.length ≠ t.length → samXs l t = false
  | [], [], h => by simp at h
  | [], _ :: _, _ => rfl
  | _ :: _, [], _ => rfl
  | x :: l, y :: t, h => by rw [samXs, samXs_len (by simpa using h), Bool.and_false]
theorem samFs_drop {l t : List Fn} {j : Nat} (h : j < l.length) (h' : j < t.length) : samFs (l.drop j) (t.drop j) = (samF l[j] t[j] && samFs (l.drop (j + 1)) (t.drop (j + 1))) := by
  rw [List.drop_eq_getElem_cons h, List.drop_eq_getElem_cons h', samFs]
theorem samFs_len : ∀ {l t : List Fn}, l.length ≠ t.length → samFs l t = false
  | [], [], h => by simp at h
  | [], _ :: _, _ => rfl
  | _ :: _, [], _ => rfl
  | x :: l, y :: t, h => by rw [samFs, samFs_len (by simpa using h), Bool.and_false]
end Go.Proofs.YtfmkjdfidenfkaaDoor
