/- Programs as trees, with the addresses at which their lists lie; what it is that a world holds such a tree. -/
import Derived.WalkKit
import Derived.WalkSpells
import Derived.WalkLawsBesides
import Derived.ProofKit
namespace Go.Proofs.YtbpemackmadhgaaDoor
open Go.RowKit

/-- An expression: kind, number, name; where its arguments lie, how much room is there, and they. -/
inductive Ex where
  | mk (kind n : Int) (name : ByteArray) (a : Option Addr) (cap : Nat) (args : List Ex)

namespace Ex
def kind : Ex → Int | mk k _ _ _ _ _ => k
def n : Ex → Int | mk _ n _ _ _ _ => n
def name : Ex → ByteArray | mk _ _ s _ _ _ => s
def a : Ex → Option Addr | mk _ _ _ a _ _ => a
def cap : Ex → Nat | mk _ _ _ _ c _ => c
def args : Ex → List Ex | mk _ _ _ _ _ l => l
/-- The value of an expression. -/
def cells (x : Ex) : List Value := [.int .i64 x.kind, .int .i64 x.n, .string x.name, .slice x.a x.args.length x.cap]
def val (x : Ex) : Value := .agg #[.int .i64 x.kind, .int .i64 x.n, .string x.name, .slice x.a x.args.length x.cap]
end Ex

mutual
def Ex.sz : Ex → Nat | .mk _ _ _ _ _ l => szL l + 1
def szL : List Ex → Nat | [] => 0 | x :: r => x.sz + szL r
end

theorem Ex.sz_args (x : Ex) : x.sz = szL x.args + 1 := by cases x; simp [Ex.sz, Ex.args]
theorem szL_mem {l : List Ex} {x : Ex} (h : x ∈ l) : x.sz ≤ szL l := by
  induction l with
  | nil => cases h
  | cons y r ih =>
    rw [szL]
    rcases List.mem_cons.1 h with rfl | h
    · omega
    · have := ih h; omega

/-- Numbers of 64 bits. -/
def I64 (n : Int) : Prop := -9223372036854775808 ≤ n ∧ n ≤ 9223372036854775807

/-- A list's elements, of so many cells each, lie at an address. -/
def RowIn (W : World) (a : Option Addr) (sz : Nat) (rows : List (List Value)) : Prop :=
  ∀ i cs, rows[i]? = some cs → ∃ b o, a = some ⟨b, o, none⟩ ∧ ∀ j v, cs[j]? = some v → W.cell? ⟨b, o + (i * sz + j), none⟩ = some v

mutual
def Ex.In (W : World) : Ex → Prop
  | .mk k n s a c l => I64 k ∧ I64 n ∧ s.size ≤ 140737488351232 ∧ l.length ≤ c ∧ c * 56 ≤ 140737488351232 ∧ (a = none → c = 0) ∧ RowIn W a 4 (l.map Ex.cells) ∧ InL W l
def InL (W : World) : List Ex → Prop
  | [] => True
  | x :: r => x.In W ∧ InL W r
end

theorem inL_mem {W : World} {l : List Ex} : InL W l ↔ ∀ x ∈ l, x.In W := by
  induction l with
  | nil => simp [InL]
  | cons y r ih => simp [InL, ih]
theorem Ex.in_iff {W : World} {x : Ex} : x.In W ↔ I64 x.kind ∧ I64 x.n ∧ x.name.size ≤ 140737488351232 ∧ x.args.length ≤ x.cap ∧ x.cap * 56 ≤ 140737488351232 ∧ (x.a = none → x.cap = 0) ∧ RowIn W x.a 4 (x.args.map Ex.cells) ∧ ∀ y ∈ x.args, y.In W := by
  cases x; simp only [Ex.In, Ex.kind, Ex.n, Ex.name, Ex.a, Ex.cap, Ex.args, inL_mem]

theorem lt_of_cell {W : World} {p : Addr} {v : Value} (h : W.cell? p = some v) : p.block < W.heap.size := by
  by_cases hlt : p.block < W.heap.size
  · exact hlt
  · unfold World.cell? at h
    rw [Array.getElem?_eq_none (by omega)] at h
    cases h

theorem RowIn.below {W W' : World} {a : Option Addr} {sz : Nat} {rows : List (List Value)} (h : RowIn W a sz rows) (hb : Below W.heap.size W W') : RowIn W' a sz rows := by
  intro i cs hi
  obtain ⟨b, o, e, hc⟩ := h i cs hi
  refine ⟨b, o, e, fun j v hj => ?_⟩
  have := hc j v hj
  exact (hb.cell (lt_of_cell this)).trans this

theorem Ex.In.below {W W' : World} (hb : Below W.heap.size W W') : ∀ (k : Nat) (x : Ex), x.sz ≤ k → x.In W → x.In W' := by
  intro k
  induction k with
  | zero => intro x hk; have := x.sz_args; omega
  | succ k ih =>
    intro x hk h
    obtain ⟨h1, h2, h3, h4, h5, h6, h7, h8⟩ := Ex.in_iff.1 h
    refine Ex.in_iff.2 ⟨h1, h2, h3, h4, h5, h6, h7.below hb, fun y hy => ih y ?_ (h8 y hy)⟩
    have := x.sz_args; have := szL_mem hy; omega
end Go.Proofs.YtbpemackmadhgaaDoor
