/- FlowCloses: what lies in memory. -/
import Derived.Test.YtoabnkidfapniaaNv
import Derived.Test.YtoabnkidfapniaaNx
namespace Go.Proofs.Ytoabnkidfapniaa
open Go.RowKit Go.Shelf

/-- What lies where: the function's box, the answer's, can, ledTo. -/
structure CI (w : World) (fc : Array Value) (n x3 x4 gl : Nat) (vc : Value) (rs ld : List Bool) (W : World) : Prop where
  fb : W.heap[w.heap.size]? = some (.cells fc 25)
  rb : Boxed W (w.heap.size + 1) 4 (.bool false)
  b3 : Boxed W x3 37 vc
  b4 : Boxed W x4 37 (.slice (some ⟨gl, 0, none⟩) n n)
  r : Ob (w.heap.size + 2) rs vc W
  l : Ob (w.heap.size + 2) ld (.slice (some ⟨gl, 0, none⟩) n n) W
  ap : vc.ownBlock ≠ some gl
  b : Below w.heap.size w W
section
variable {w : World} {fc : Array Value} {n x3 x4 gl : Nat} {vc : Value} {rs ld : List Bool} {W W' : World}
theorem CI.grown (h : CI w fc n x3 x4 gl vc rs ld W) {row : Option Nat} {B : Nat} (hB : w.heap.size + 1 ≤ B) (hg : W.grownBy W' row) (hr : ∀ r, row = some r → B ≤ r ∧ ∃ o : Obj, W.heap[r]? = some o ∧ o.isCells = false) : CI w fc n x3 x4 gl vc rs ld W' :=
  ⟨(hg.block _ (Array.getElem?_eq_some_iff.1 h.fb).1 (fun e => by have := (hr _ e.symm).1; omega)).trans h.fb, boxed_grown h.rb hg (fun r e => (hr r e).2), boxed_grown h.b3 hg (fun r e => (hr r e).2), boxed_grown h.b4 hg (fun r e => (hr r e).2), own_grown h.r hg (fun r e => (hr r e).2), own_grown h.l hg (fun r e => (hr r e).2), h.ap, h.b.grown hg h.b.size (fun k e => by have := (hr k e).1; omega)⟩
theorem CI.stay (h : CI w fc n x3 x4 gl vc rs ld W) (hb : Below W.heap.size W W') : CI w fc n x3 x4 gl vc rs ld W' :=
  ⟨blk_stay h.fb hb, boxed_stay h.rb hb, boxed_stay h.b3 hb, boxed_stay h.b4 hb, own_stay h.r hb, own_stay h.l hb, h.ap, Below.on h.b hb⟩
theorem CI.putL (h : CI w fc n x3 x4 gl vc rs ld W) (v : Nat) (b : Bool) : CI w fc n x3 x4 gl vc rs (ld.set v b) (W.setCell ⟨gl, v, none⟩ (.bool b)) := by
  obtain ⟨cur, hc, hN⟩ := own_blk h.l
  exact ⟨(Below.heap_setCell _ _ _ _ (by simp only; omega)).trans h.fb, (Below.heap_setCell _ _ _ _ (by simp only; omega)).trans h.rb, boxed_set h.b3 hc (by decide) _ _, boxed_set h.b4 hc (by decide) _ _, own_off h.r h.ap _ _, ob_put h.l v b, h.ap, h.b.setCell (by simp only; omega) _⟩
end
theorem CI.own (w : World) (fc : Array Value) (n x3 x4 gl : Nat) (vc : Value) (rs : List Bool) {α : Type} (ld : α → List Bool) {B : Nat} (hB : w.heap.size + 1 ≤ B) : OwnFrom B (fun (p : α) W => CI w fc n x3 x4 gl vc rs (ld p) W) := fun _ _ _ _ h hg hr => h.grown hB hg hr
end Go.Proofs.Ytoabnkidfapniaa
