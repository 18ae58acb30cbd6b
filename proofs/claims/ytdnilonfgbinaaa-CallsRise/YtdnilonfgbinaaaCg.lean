/- What is wrong with an instruction: checkN, checkIns. -/
import Derived.Test.YtdnilonfgbinaaaCa
namespace Go.Proofs.Ytdnilonfgbinaaa
open Go.RowKit Go.Sort

abbrev oM (m : Mo) : Obj := .cells #[.slice m.ta m.ths.length m.tc, .slice m.fa m.funcs.length m.fc] 25
abbrev oF (f : Fn) : Obj := .cells #[.string f.name, .slice f.pa f.params.length f.pc, .int .i64 f.regs, .int .i64 f.words, .slice f.ca f.code.length f.cc] 42
abbrev oX (x : Is) : Obj := .cells #[.int .i64 x.op, .int .i64 x.a, .int .i64 x.b, .int .i64 x.c, .int .i64 x.n] 44
theorem below3 (w : World) (a b c : Obj) : Below w.heap.size w (((w.alloc a).alloc b).alloc c) := Below.one (Below.one (Below.one (Below.refl _ w) a) b) c
theorem cell_m {w : World} {m : Mo} {b c : Obj} {j : Nat} {v : Value} (h : (#[.slice m.ta m.ths.length m.tc, .slice m.fa m.funcs.length m.fc] : Array Value)[j]? = some v) : (((w.alloc (oM m)).alloc b).alloc c).cell? ⟨w.heap.size, j, none⟩ = some v :=
  cell_kept_below (new_cell w _ _ j v h) (Below.one (Below.one (Below.refl _ _) b) c)
theorem cell_f {w : World} {a : Obj} {f : Fn} {c : Obj} {j : Nat} {v : Value} (h : (#[.string f.name, .slice f.pa f.params.length f.pc, .int .i64 f.regs, .int .i64 f.words, .slice f.ca f.code.length f.cc] : Array Value)[j]? = some v) : (((w.alloc a).alloc (oF f)).alloc c).cell? ⟨w.heap.size + 1, j, none⟩ = some v := by
  have := cell_kept_below (new_cell (w.alloc a) _ 42 j v h) (Below.one (Below.refl _ _) c)
  rwa [World.size_alloc] at this
theorem cell_x {w : World} {a b : Obj} {x : Is} {j : Nat} {v : Value} (h : (#[.int .i64 x.op, .int .i64 x.a, .int .i64 x.b, .int .i64 x.c, .int .i64 x.n] : Array Value)[j]? = some v) : (((w.alloc a).alloc b).alloc (oX x)).cell? ⟨w.heap.size + 1 + 1, j, none⟩ = some v := by
  have := new_cell ((w.alloc a).alloc b) _ 44 j v h
  rwa [World.size_alloc, World.size_alloc] at this

theorem rw_n (op : Int) : (rwOf op).n = 0 ∨ (rwOf op).n = 1 ∨ (rwOf op).n = 2 ∨ (rwOf op).n = 3 ∨ (rwOf op).n = 4 := by
  by_cases h : 0 ≤ op ∧ op ≤ 19
  · refine op_cases (P := fun op => (rwOf op).n = 0 ∨ (rwOf op).n = 1 ∨ (rwOf op).n = 2 ∨ (rwOf op).n = 3 ∨ (rwOf op).n = 4) h.1 h.2 ?_ ?_ ?_ ?_ ?_ ?_ ?_ ?_ ?_ ?_ ?_ ?_ ?_ ?_ ?_ ?_ ?_ ?_ ?_ ?_ <;> decide
  · rw [rwOf_no h]; simp
theorem parN_at {m : Mo} {k : Nat} (h : k < m.funcs.length) : parN m k = (m.funcs[k].params.length : Int) := by
  unfold parN; simp [h]

def callZ (m : Mo) (f : Fn) (x : Is) : Int := if x.n < 0 ∨ x.n ≥ m.funcs.length ∨ wrap64 (x.b + parN m x.n) > f.regs then 65 else 0
end Go.Proofs.Ytdnilonfgbinaaa
