/- Modules as data, with the addresses at which their lists lie; what it is that a world holds such a module. -/
import Derived.WalkKit
import Derived.WalkSpells
import Derived.WalkLawsBesides
import Derived.ProofKit
import Derived.BigQuiet
import Derived.Lib.Walk
namespace Go.Proofs.Ytdnilonfgbinaaa
open Go.RowKit

theorem Hid.mk' {p : Prop} (h : p) : Hid p := h
theorem Below.on {A B C : World} (h : Below A.heap.size A B) (k : Below B.heap.size B C) : Below A.heap.size A C := h.trans (k.mono h.size)
theorem Below.one {A B : World} (h : Below A.heap.size A B) (o : Obj) : Below A.heap.size A (B.alloc o) := h.alloc h.size o
theorem ret_int {k : IntKind} {a b : Int} (h : a = b) : Ending.returned (.int k a) = .returned (.int k b) := by rw [h]
theorem ret_bool {a b : Bool} (h : a = b) : Ending.returned (.bool a) = .returned (.bool b) := by rw [h]
theorem ret_val {a b : Value} (h : a = b) : Ending.returned a = .returned b := by rw [h]
theorem bne_of {a b : Int} (h : a ≠ b) : (a != b) = true := by simp only [bne_iff_ne]; exact h
theorem beq_no {a b : Int} (h : a ≠ b) : (a == b) = false := by rw [beq_eq_false_iff_ne]; exact h
theorem bne_no {a b : Int} (h : a = b) : (a != b) = false := by simp [h]

/-- Numbers of 64 bits. -/
def I64 (n : Int) : Prop := -9223372036854775808 ≤ n ∧ n ≤ 9223372036854775807
theorem I64.wrap {n : Int} (h : I64 n) : IntKind.i64.wrap n = n := by rw [IntKind.wrap_i64]; unfold I64 at h; omega

/-- A list's elements, of so many cells each, lie at an address. -/
def RowIn (W : World) (a : Option Addr) (sz : Nat) (rows : List (List Value)) : Prop :=
  ∀ i cs, rows[i]? = some cs → ∃ b o, a = some ⟨b, o, none⟩ ∧ ∀ j v, cs[j]? = some v → W.cell? ⟨b, o + (i * sz + j), none⟩ = some v
theorem lt_of_cell {W : World} {p : Addr} {v : Value} (h : W.cell? p = some v) : p.block < W.heap.size := by
  by_cases hlt : p.block < W.heap.size
  · exact hlt
  · unfold World.cell? at h
    rw [Array.getElem?_eq_none (by omega)] at h
    cases h
theorem RowIn.below {W W' : World} {a : Option Addr} {sz : Nat} {rows : List (List Value)} (h : RowIn W a sz rows) (hb : Below W.heap.size W W') : RowIn W' a sz rows := by
  intro i cs hi
  obtain ⟨b, o, e, hc⟩ := h i cs hi
  refine ⟨b, o, e, fun j v hj => ?_⟩
  have := hc j v hj
  exact (hb.cell (lt_of_cell this)).trans this

/-- A span; an instruction; a function; a module. -/
abbrev Sp := Int × Int
def spC (s : Sp) : List Value := [.int .i64 s.1, .int .i64 s.2]
def spV (s : Sp) : Value := .agg #[.int .i64 s.1, .int .i64 s.2]
def spOk (s : Sp) : Prop := I64 s.1 ∧ I64 s.2
structure Is where
  op : Int
  a : Int
  b : Int
  c : Int
  n : Int
deriving DecidableEq
def Is.cells (x : Is) : List Value := [.int .i64 x.op, .int .i64 x.a, .int .i64 x.b, .int .i64 x.c, .int .i64 x.n]
def Is.val (x : Is) : Value := .agg #[.int .i64 x.op, .int .i64 x.a, .int .i64 x.b, .int .i64 x.c, .int .i64 x.n]
def Is.Ok (x : Is) : Prop := I64 x.op ∧ I64 x.a ∧ I64 x.b ∧ I64 x.c ∧ I64 x.n
structure Fn where
  name : ByteArray
  pa : Option Addr
  pc : Nat
  params : List Sp
  regs : Int
  words : Int
  ca : Option Addr
  cc : Nat
  code : List Is
def Fn.cells (f : Fn) : List Value := [.string f.name, .slice f.pa f.params.length f.pc, .int .i64 f.regs, .int .i64 f.words, .slice f.ca f.code.length f.cc]
def Fn.val (f : Fn) : Value := .agg #[.string f.name, .slice f.pa f.params.length f.pc, .int .i64 f.regs, .int .i64 f.words, .slice f.ca f.code.length f.cc]
structure Mo where
  ta : Option Addr
  tc : Nat
  ths : List Int
  fa : Option Addr
  fc : Nat
  funcs : List Fn
def Mo.val (m : Mo) : Value := .agg #[.slice m.ta m.ths.length m.tc, .slice m.fa m.funcs.length m.fc]
def thC (z : Int) : List Value := [.int .i64 z]

/-- Lists that lie in memory. -/
def Thr (W : World) (a : Option Addr) (l : List Int) : Prop := l.length * 8 ≤ 140737488351232 ∧ RowIn W a 1 (l.map thC)
def Sps (W : World) (a : Option Addr) (l : List Sp) : Prop := l.length * 16 ≤ 140737488351232 ∧ RowIn W a 2 (l.map spC)
def Iss (W : World) (a : Option Addr) (l : List Is) : Prop := l.length * 40 ≤ 140737488351232 ∧ RowIn W a 5 (l.map Is.cells)
def Fns (W : World) (a : Option Addr) (l : List Fn) : Prop := l.length * 80 ≤ 140737488351232 ∧ RowIn W a 5 (l.map Fn.cells)
def Fn.In (W : World) (f : Fn) : Prop := f.name.size ≤ 140737488351232 ∧ I64 f.regs ∧ I64 f.words ∧ Sps W f.pa f.params ∧ (∀ p ∈ f.params, spOk p) ∧ Iss W f.ca f.code ∧ ∀ x ∈ f.code, x.Ok
def Mo.In (W : World) (m : Mo) : Prop := Thr W m.ta m.ths ∧ (∀ z ∈ m.ths, I64 z) ∧ Fns W m.fa m.funcs ∧ ∀ f ∈ m.funcs, f.In W
theorem Thr.stay {W W' : World} (hb : Below W.heap.size W W') {a : Option Addr} {l : List Int} (h : Thr W a l) : Thr W' a l := ⟨h.1, h.2.below hb⟩
theorem Sps.stay {W W' : World} (hb : Below W.heap.size W W') {a : Option Addr} {l : List Sp} (h : Sps W a l) : Sps W' a l := ⟨h.1, h.2.below hb⟩
theorem Iss.stay {W W' : World} (hb : Below W.heap.size W W') {a : Option Addr} {l : List Is} (h : Iss W a l) : Iss W' a l := ⟨h.1, h.2.below hb⟩
theorem Fns.stay {W W' : World} (hb : Below W.heap.size W W') {a : Option Addr} {l : List Fn} (h : Fns W a l) : Fns W' a l := ⟨h.1, h.2.below hb⟩
theorem Fn.In.stay {W W' : World} (hb : Below W.heap.size W W') {f : Fn} (h : f.In W) : f.In W' := ⟨h.1, h.2.1, h.2.2.1, h.2.2.2.1.stay hb, h.2.2.2.2.1, h.2.2.2.2.2.1.stay hb, h.2.2.2.2.2.2⟩
theorem Mo.In.stay {W W' : World} (hb : Below W.heap.size W W') {m : Mo} (h : m.In W) : m.In W' := ⟨h.1.stay hb, h.2.1, h.2.2.1.stay hb, fun f hf => (h.2.2.2 f hf).stay hb⟩

theorem thr_at {W : World} {a : Option Addr} {l : List Int} (h : Thr W a l) {i : Nat} (hi : i < l.length) : ∃ b o, a = some ⟨b, o, none⟩ ∧ W.cell? ⟨b, o + i, none⟩ = some (.int .i64 l[i]) := by
  obtain ⟨b, o, e, hc⟩ := h.2 i (thC l[i]) (by simp [hi])
  exact ⟨b, o, e, by simpa using hc 0 _ rfl⟩
theorem sps_at {W : World} {a : Option Addr} {l : List Sp} (h : Sps W a l) {i : Nat} (hi : i < l.length) : ∃ b o, a = some ⟨b, o, none⟩ ∧ W.cell? ⟨b, o + i * 2, none⟩ = some (.int .i64 l[i].1) ∧ W.cell? ⟨b, o + i * 2 + 1, none⟩ = some (.int .i64 l[i].2) := by
  obtain ⟨b, o, e, hc⟩ := h.2 i (spC l[i]) (by simp [hi])
  exact ⟨b, o, e, hc 0 _ rfl, hc 1 _ rfl⟩
theorem iss_at {W : World} {a : Option Addr} {l : List Is} (h : Iss W a l) {i : Nat} (hi : i < l.length) : ∃ b o, a = some ⟨b, o, none⟩ ∧ W.cell? ⟨b, o + i * 5, none⟩ = some (.int .i64 l[i].op) ∧ W.cell? ⟨b, o + i * 5 + 1, none⟩ = some (.int .i64 l[i].a) ∧ W.cell? ⟨b, o + i * 5 + 2, none⟩ = some (.int .i64 l[i].b) ∧ W.cell? ⟨b, o + i * 5 + 3, none⟩ = some (.int .i64 l[i].c) ∧ W.cell? ⟨b, o + i * 5 + 4, none⟩ = some (.int .i64 l[i].n) := by
  obtain ⟨b, o, e, hc⟩ := h.2 i l[i].cells (by simp [hi])
  exact ⟨b, o, e, hc 0 _ rfl, hc 1 _ rfl, hc 2 _ rfl, hc 3 _ rfl, hc 4 _ rfl⟩
theorem fns_at {W : World} {a : Option Addr} {l : List Fn} (h : Fns W a l) {i : Nat} (hi : i < l.length) : ∃ b o, a = some ⟨b, o, none⟩ ∧ W.cell? ⟨b, o + i * 5, none⟩ = some (.string l[i].name) ∧ W.cell? ⟨b, o + i * 5 + 1, none⟩ = some (.slice l[i].pa l[i].params.length l[i].pc) ∧ W.cell? ⟨b, o + i * 5 + 2, none⟩ = some (.int .i64 l[i].regs) ∧ W.cell? ⟨b, o + i * 5 + 3, none⟩ = some (.int .i64 l[i].words) ∧ W.cell? ⟨b, o + i * 5 + 4, none⟩ = some (.slice l[i].ca l[i].code.length l[i].cc) := by
  obtain ⟨b, o, e, hc⟩ := h.2 i l[i].cells (by simp [hi])
  exact ⟨b, o, e, hc 0 _ rfl, hc 1 _ rfl, hc 2 _ rfl, hc 3 _ rfl, hc 4 _ rfl⟩
end Go.Proofs.Ytdnilonfgbinaaa
