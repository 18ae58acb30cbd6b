/- The law's own question that is asked first: the module that it makes. -/
import Derived.Test.YtlkoigdnakmdlaaDoorIg
import Derived.Test.YtlkoigdnakmdlaaDoorCl
import Derived.Test.YtlkoigdnakmdlaaDoorCf
namespace Go.Proofs.YtlkoigdnakmdlaaDoor
open Go.RowKit Go.Shelf

def f0 (h : Nat) (b : Int) : Fn := ⟨⟨#[102]⟩, none, 0, [], 1, 0, some ⟨h, 0, none⟩, 1, [⟨0, 0, b, 0, 0⟩]⟩
def m0 (h : Nat) (b : Int) : Mo := ⟨none, 0, [], some ⟨h + 1, 0, none⟩, 1, [f0 h b]⟩
structure FixM (W : World) (h : Nat) (b : Int) : Prop where
  c : W.heap[h]? = some (.cells #[.int .i64 0, .int .i64 0, .int .i64 b, .int .i64 0, .int .i64 0] 27)
  f : W.heap[h + 1]? = some (.cells #[.string ⟨#[102]⟩, .slice none 0 0, .int .i64 1, .int .i64 0, .slice (some ⟨h, 0, none⟩) 1 1] 46)
  m : W.heap[h + 1 + 1]? = some (.cells #[.slice none 0 0, .slice (some ⟨h + 1, 0, none⟩) 1 1] 33)
theorem block_grown {W W' : World} {b : Nat} {cs : Array Value} {T : TypeId} {fz : Nat × Nat} {row : Option Nat} (h : W.heap[b]? = some (.cells cs T fz)) (hg : W.grownBy W' row) (hr : ∀ r, row = some r → ∃ o : Obj, W.heap[r]? = some o ∧ o.isCells = false) : W'.heap[b]? = some (.cells cs T fz) :=
  (hg.block b (Array.getElem?_eq_some_iff.1 h).1 (fun e => by
    obtain ⟨o, ho, hc⟩ := hr b e.symm
    rw [h] at ho; cases ho; cases hc)).trans h
theorem FixM.grown {W W' : World} {h : Nat} {b : Int} {row : Option Nat} (k : FixM W h b) (hg : W.grownBy W' row) (hr : ∀ r, row = some r → ∃ o : Obj, W.heap[r]? = some o ∧ o.isCells = false) : FixM W' h b := ⟨block_grown k.c hg hr, block_grown k.f hg hr, block_grown k.m hg hr⟩
theorem FixM.stay {W W' : World} {h : Nat} {b : Int} (k : FixM W h b) (hb : Below W.heap.size W W') : FixM W' h b := ⟨(hb.block _ (Array.getElem?_eq_some_iff.1 k.c).1).trans k.c, (hb.block _ (Array.getElem?_eq_some_iff.1 k.f).1).trans k.f, (hb.block _ (Array.getElem?_eq_some_iff.1 k.m).1).trans k.m⟩
theorem FixM.in {W : World} {h : Nat} {b : Int} (k : FixM W h b) (hb : I64 b) : (m0 h b).In W := by
  have r1 : Iss W (some ⟨h, 0, none⟩) [⟨0, 0, b, 0, 0⟩] := by
    refine ⟨by simp, fun i cs hi => ?_⟩
    match i, hi with
    | 0, hi =>
      simp at hi; subst hi
      refine ⟨h, 0, rfl, fun j v hj => ?_⟩
      rw [Lib.cell_of_heap k.c, ← Array.getElem?_toList]
      simpa [Is.cells] using hj
  have r2 : Fns W (some ⟨h + 1, 0, none⟩) [f0 h b] := by
    refine ⟨by simp, fun i cs hi => ?_⟩
    match i, hi with
    | 0, hi =>
      simp at hi; subst hi
      refine ⟨h + 1, 0, rfl, fun j v hj => ?_⟩
      rw [Lib.cell_of_heap k.f, ← Array.getElem?_toList]
      simpa [Fn.cells, f0] using hj
  refine ⟨⟨by simp [m0], fun i cs hi => by simp [m0] at hi⟩, by simp [m0], r2, fun f hf => ?_⟩
  rw [List.mem_singleton.1 hf]
  refine ⟨(by omega : (1 : Nat) ≤ 140737488351232), by unfold I64 f0; simp, by unfold I64 f0; simp, ⟨by simp [f0], fun i cs hi => by simp [f0] at hi⟩, by simp [f0], r1, fun x hx => ?_⟩
  rw [List.mem_singleton.1 hx]
  exact ⟨by unfold I64; simp, by unfold I64; simp, hb, by unfold I64; simp, by unfold I64; simp⟩
theorem may_0 (h : Nat) : mayZ (m0 h 0) = (0, 0, 0) := by kernel_rfl
theorem may_3 (h : Nat) : mayZ (m0 h 3) = (62, 0, 0) := by kernel_rfl
theorem fnd_f (h : Nat) (b : Int) : fndN (m0 h b).funcs ⟨#[102]⟩ 0 = 0 := by kernel_rfl
theorem fnd_g (h : Nat) (b : Int) : fndN (m0 h b).funcs ⟨#[103]⟩ 0 = -1 := by kernel_rfl
theorem sam_0 (h : Nat) : samM (m0 h 3) (m0 h 3) = true := by kernel_rfl
theorem eqf0 (w : World) : (Op.equalIn 10000 37 (.agg #[.int .i64 0, .int .i64 0, .int .i64 0]) (.agg #[.int .i64 0, .int .i64 0, .int .i64 0])).run Tryd.prog w = .ok true w := by kernel_rfl
theorem eqf62 (w : World) : (Op.equalIn 10000 37 (.agg #[.int .i64 62, .int .i64 0, .int .i64 0]) (.agg #[.int .i64 62, .int .i64 0, .int .i64 0])).run Tryd.prog w = .ok true w := by kernel_rfl
theorem eqGuard_f (w : World) (op : BinOp) (a b : Operand) (xs ys : Array Value) : (eqGuard op 37 a b (.agg xs) (.agg ys)).run Tryd.prog w = .ok () w := run_eqGuard_agg w op 37 a b xs ys (by kernel_rfl)
theorem equalIn_fl (a b c a' b' c' : Int) (w : World) : (Op.equalIn 10000 37 (.agg #[.int .i64 a, .int .i64 b, .int .i64 c]) (.agg #[.int .i64 a', .int .i64 b', .int .i64 c'])).run Tryd.prog w = .ok (a == a' && (b == b' && c == c')) w := by
  have u3 := Tryd.underlying3
  have a3 := Tryd.isAgg3
  have z3 := Tryd.sizeOf3
  have u31 := Tryd.underlying35
  have a31 := Tryd.isAgg35
  have z31 := Tryd.sizeOf35
  have hS : Tryd.prog.underlying 37 = some (.struct (Tryd.prog.fieldsOf 37)) := by kernel_rfl
  have hp : Tryd.prog.stoodInHeld 37 = false := by kernel_rfl
  rw [show (10000 : Nat) = 9999 + 1 from rfl, run_equalIn_agg w 9999 37 _ _ hS hp]
  simp only [Program.fieldsOf, Tryd.underlying37]
  go_simp
  by_cases h1 : a = a' <;> by_cases h2 : b = b' <;> by_cases h3 : c = c' <;> simp [h1, h2, h3]
theorem rd_27 : rdL ⟨3, 1, 2, 7, 0⟩ 0 = [2, 7] := by kernel_rfl
theorem wr_2 : wrN ⟨18, 2, 0, 0, 0⟩ = 2 := by kernel_rfl
end Go.Proofs.YtlkoigdnakmdlaaDoor
