/- Readers of bytes in memory, and what stays where one is at work. -/
import Derived.Test.YtfamomjgjamnoaaDoorPb
namespace Go.Proofs.YtfamomjgjamnoaaDoor
open Go.RowKit Go.Sort

/-- All blocks but one stay. -/
structure OnlyB (R : Nat) (W W' : World) : Prop where
  os : W'.os = W.os
  tape : W'.tape = W.tape
  output : W'.output = W.output
  size : W.heap.size ≤ W'.heap.size
  block : ∀ k, k < W.heap.size → k ≠ R → W'.heap[k]? = W.heap[k]?
theorem OnlyB.refl (R : Nat) (W : World) : OnlyB R W W := ⟨rfl, rfl, rfl, Nat.le_refl _, fun _ _ _ => rfl⟩
theorem OnlyB.on {R : Nat} {W W' W'' : World} (h : OnlyB R W W') (k : OnlyB R W' W'') : OnlyB R W W'' :=
  ⟨k.os.trans h.os, k.tape.trans h.tape, k.output.trans h.output, Nat.le_trans h.size k.size, fun i hi hR => (k.block i (Nat.lt_of_lt_of_le hi h.size) hR).trans (h.block i hi hR)⟩
theorem OnlyB.of {R : Nat} {W W' : World} (h : Below W.heap.size W W') : OnlyB R W W' := ⟨h.os, h.tape, h.output, h.size, fun i hi _ => h.block i hi⟩
theorem OnlyB.set {R : Nat} {W W' : World} (h : OnlyB R W W') (j : Nat) (u : Value) : OnlyB R W (W'.setCell ⟨R, j, none⟩ u) :=
  ⟨h.os, h.tape, h.output, by have := h.size; simpa [World.setCell] using this, fun i hi hR => (Below.heap_setCell _ _ _ _ (by simpa using hR)).trans (h.block i hi hR)⟩
/-- A new block may be written, too. -/
theorem OnlyB.put {R : Nat} {W W' : World} (h : OnlyB R W W') {b : Nat} (hb : W.heap.size ≤ b) (j : Nat) (u : Value) : OnlyB R W (W'.setCell ⟨b, j, none⟩ u) :=
  ⟨h.os, h.tape, h.output, by have := h.size; simpa [World.setCell] using this, fun i hi hR => (Below.heap_setCell _ _ _ _ (by simp only; omega)).trans (h.block i hi hR)⟩
theorem OnlyB.drew {R : Nat} {W W' W'' : World} (h : OnlyB R W W') (k : OnlyB R W'.drew W'') : OnlyB R W W'' := (h.on (OnlyB.of (below_drew W'))).on k
theorem OnlyB.blk {R : Nat} {W W' : World} (h : OnlyB R W W') {k : Nat} {o : Obj} (hk : W.heap[k]? = some o) (hR : k ≠ R) : W'.heap[k]? = some o := (h.block k (Array.getElem?_eq_some_iff.1 hk).1 hR).trans hk
theorem OnlyB.cell {R : Nat} {W W' : World} (h : OnlyB R W W') {p : Addr} {v : Value} (hc : W.cell? p = some v) (hR : p.block ≠ R) : W'.cell? p = some v := by
  have := h.block p.block (lt_of_cell hc) hR
  unfold World.cell? at hc ⊢
  rw [this]; exact hc
theorem OnlyB.below {R N : Nat} {W W' : World} (h : OnlyB R W W') (hN : N ≤ W.heap.size) (hR : N ≤ R) : Below N W W' := ⟨h.os, h.tape, h.output, h.size, fun k hk => h.block k (by omega) (by omega)⟩
/-- A row of the call's own of another type than the reader's block stays. -/
theorem OnlyB.own {R : Nat} {W W' : World} (h : OnlyB R W W') {N n sz : Nat} {T T' : TypeId} {v : Value} {xs : List Value} {cs : Array Value} {fz : Nat × Nat} (hR : W.heap[R]? = some (.cells cs T' fz)) (ho : W.ownsRow N T sz v n xs) (hT : T ≠ T') : W'.ownsRow N T sz v n xs := by
  refine ⟨ho.1, ?_⟩
  rcases ho.2 with h0 | ⟨g, cap, cur, rfl, h1, h2, h3⟩
  · exact .inl h0
  · refine .inr ⟨g, cap, cur, rfl, h1, ?_, h3⟩
    refine h.blk h2 fun e => ?_
    subst e
    rw [h2] at hR
    simp at hR
    exact hT hR.2.1

def bC (b : UInt8) : List Value := [u8V b]
/-- How the cells of a reader say how it stands. -/
def Ss (s : Sr) (a : Nat) (e p : Int) : Prop := match s with
  | .at a' => a = a' ∧ e = 0
  | .bad e' p' => e = e' ∧ p = p' ∧ e' ≠ 0
/-- Block R, of the type T, holds a reader of these bytes, which stands so. -/
structure RdAt (T : TypeId) (R : Nat) (bs : Bt) (va : Option Addr) (vc : Nat) (s : Sr) (W : World) : Prop where
  ex : ∃ (a : Nat) (e p : Int), W.heap[R]? = some (.cells #[.slice va bs.length vc, .int .i64 a, .int .i64 e, .int .i64 p] T) ∧ a ≤ bs.length ∧ Ss s a e p
  by' : RowIn W va 1 (bs.map bC)
  off : ∀ a, va = some a → a.block ≠ R
  len : bs.length ≤ 1048576
  cap : bs.length ≤ vc
theorem RdAt.lt {T : TypeId} {R : Nat} {bs : Bt} {va : Option Addr} {vc : Nat} {s : Sr} {W : World} (h : RdAt T R bs va vc s W) : R < W.heap.size := by
  obtain ⟨a, e, p, hb, _⟩ := h.ex
  exact (Array.getElem?_eq_some_iff.1 hb).1
theorem RdAt.bytes {T : TypeId} {R : Nat} {bs : Bt} {va : Option Addr} {vc : Nat} {s : Sr} {W W' : World} (h : RdAt T R bs va vc s W) (ho : OnlyB R W W') : RowIn W' va 1 (bs.map bC) := by
  intro i cs hi
  obtain ⟨b, o, e, hc⟩ := h.by' i cs hi
  exact ⟨b, o, e, fun j v hj => ho.cell (hc j v hj) (show b ≠ R from h.off _ e)⟩
/-- The reader's block is written. -/
theorem RdAt.turn {T : TypeId} {R : Nat} {bs : Bt} {va : Option Addr} {vc : Nat} {s s' : Sr} {W W' : World} (h : RdAt T R bs va vc s W) (ho : OnlyB R W W') {a : Nat} {e p : Int} (hb : W'.heap[R]? = some (.cells #[.slice va bs.length vc, .int .i64 a, .int .i64 e, .int .i64 p] T)) (ha : a ≤ bs.length) (hs : Ss s' a e p) : RdAt T R bs va vc s' W' :=
  ⟨⟨a, e, p, hb, ha, hs⟩, h.bytes ho, h.off, h.len, h.cap⟩
theorem RdAt.stay {T : TypeId} {R : Nat} {bs : Bt} {va : Option Addr} {vc : Nat} {s : Sr} {W W' : World} (h : RdAt T R bs va vc s W) (hb : Below W.heap.size W W') : RdAt T R bs va vc s W' := by
  obtain ⟨a, e, p, h1, h2, h3⟩ := h.ex
  exact h.turn (OnlyB.of hb) (blk_stay h1 hb) h2 h3
theorem RdAt.drew {T : TypeId} {R : Nat} {bs : Bt} {va : Option Addr} {vc : Nat} {s : Sr} {W : World} (h : RdAt T R bs va vc s W) : RdAt T R bs va vc s W.drew := h.stay (below_drew W)
/-- Another block is written. -/
theorem RdAt.put {T : TypeId} {R : Nat} {bs : Bt} {va : Option Addr} {vc : Nat} {s : Sr} {W W' : World} (h : RdAt T R bs va vc s W) (hk : W'.heap[R]? = W.heap[R]?) (hr : RowIn W' va 1 (bs.map bC)) : RdAt T R bs va vc s W' := by
  obtain ⟨a, e, p, h1, h2, h3⟩ := h.ex
  exact ⟨⟨a, e, p, hk.trans h1, h2, h3⟩, hr, h.off, h.len, h.cap⟩
theorem RdAt.own {T : TypeId} {R : Nat} {bs : Bt} {va : Option Addr} {vc : Nat} {s : Sr} {W W' : World} (h : RdAt T R bs va vc s W) (ho : OnlyB R W W') {N n sz : Nat} {T' : TypeId} {v : Value} {xs : List Value} (hw : W.ownsRow N T' sz v n xs) (hT : T' ≠ T) : W'.ownsRow N T' sz v n xs := by
  obtain ⟨a, e, p, h1, _⟩ := h.ex
  exact ho.own h1 hw hT
/-- What a reader's call comes to. -/
def RdP {α : Type} (T : TypeId) (R : Nat) (bs : Bt) (va : Option Addr) (vc : Nat) (s : Sr) (r : Rd α) (V : α → Value) (G : α → World → Prop) (w : World) (e : Ending) (w' : World) : Prop :=
  ∃ x s', e = .returned (V x) ∧ Rn r bs s x s' ∧ RdAt T R bs va vc s' w' ∧ OnlyB R w w' ∧ G x w'
abbrev rdC (va : Option Addr) (n vc a : Nat) (e p : Int) : Array Value := #[.slice va n vc, .int .i64 a, .int .i64 e, .int .i64 p]
theorem ss_bad {e' p' : Int} {a : Nat} {e p : Int} (h : Ss (.bad e' p') a e p) : e = e' ∧ p = p' ∧ e' ≠ 0 := h
theorem ss_at {a' : Nat} {a : Nat} {e p : Int} (h : Ss (.at a') a e p) : a = a' ∧ e = 0 := h
end Go.Proofs.YtfamomjgjamnoaaDoor
