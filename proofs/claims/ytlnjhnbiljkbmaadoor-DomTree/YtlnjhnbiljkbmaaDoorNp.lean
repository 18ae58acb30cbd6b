/- The law's own question: are edges told as they are to be? -/
import Derived.Test.YtlnjhnbiljkbmaaDoorJk
import Derived.Test.YtlnjhnbiljkbmaaDoorNn
namespace Go.Proofs.YtlnjhnbiljkbmaaDoor
open Go.RowKit Go.Shelf
attribute [local go_sem] Oper.semAt_some

theorem boxed_grown {W W' : World} {B : Nat} {t : TypeId} {v : Value} {row : Option Nat} (h : Boxed W B t v) (hg : W.grownBy W' row) (hr : ∀ r, row = some r → ∃ o : Obj, W.heap[r]? = some o ∧ o.isCells = false) : Boxed W' B t v :=
  h.kept hg (fun e => by
    obtain ⟨o, ho, hc⟩ := hr B e.symm
    rw [show W.heap[B]? = _ from h] at ho; cases ho; cases hc)
theorem own_grown {W W' : World} {N n sz : Nat} {T : TypeId} {v : Value} {xs : List Value} {row : Option Nat} (h : W.ownsRow N T sz v n xs) (hg : W.grownBy W' row) (hr : ∀ r, row = some r → ∃ o : Obj, W.heap[r]? = some o ∧ o.isCells = false) : W'.ownsRow N T sz v n xs := by
  refine h.kept hg ?_
  rcases h.2 with ⟨rfl, _⟩ | ⟨g, cap, cur, rfl, _, hgb, _⟩
  · exact .inl rfl
  · refine .inr fun e' => ?_
    obtain ⟨o, ho, hc⟩ := hr g (by simpa [Value.ownBlock] using e'.symm)
    rw [hgb] at ho; cases ho; cases hc
theorem boxed_stay {W W' : World} {B : Nat} {t : TypeId} {v : Value} (h : Boxed W B t v) (hb : Below W.heap.size W W') : Boxed W' B t v := (hb.block _ h.lt).trans h
theorem put_boxed {W : World} {B : Nat} {t : TypeId} {v : Value} (h : Boxed W B t v) {D : Nat} {o : Obj} (o' : Obj) (hD : W.heap[D]? = some o) (hc : o.isCells = false) : Boxed (W.putObj D o') B t v :=
  boxed_grown h (grownBy_putObj' W D o') (fun r e => by cases e; exact ⟨o, hD, hc⟩)
theorem pre_at {α : Type} {L pre : List α} {x : α} (h : pre ++ [x] <+: L) : L[pre.length]? = some x := by
  obtain ⟨r, rfl⟩ := h
  simp
theorem keepsFrom_refl' (B : Nat) (W : World) : KeepsFrom B W W := (KeepsOthers.refl W).from B
theorem es_at {W : World} {a : Option Addr} {l : List (Nat × Nat)} (h : RowIn W a 2 (l.map edC)) {j : Nat} {x : Nat × Nat} (hj : l[j]? = some x) : ∃ b o, a = some ⟨b, o, none⟩ ∧ W.cell? ⟨b, o + j * 2, none⟩ = some (.int .i64 (x.1 : Int)) ∧ W.cell? ⟨b, o + j * 2 + 1, none⟩ = some (.int .i64 (x.2 : Int)) := by
  obtain ⟨b, o, e, hc⟩ := h j (edC x) (by rw [List.getElem?_map, hj]; rfl)
  exact ⟨b, o, e, hc 0 _ rfl, hc 1 _ rfl⟩
/-- What the loop holds. -/
structure TlI (w : World) (N : Nat) (v : Value) (stop : Int) (pre : List (Nat × Nat)) (W : World) : Prop where
  v : Boxed W (N + 1) 41 v
  s : Boxed W (N + 1 + 1) 3 (.int .i64 stop)
  r : Boxed W (N + 1 + 1 + 1) 4 (.bool false)
  a : Boxed W (N + 1 + 1 + 1 + 1) 3 (.int .i64 (pre.length : Nat))
  b : Below w.heap.size w W
def TlX (w : World) (N : Nat) (c : Code) (_ : List (Nat × Nat)) (W : World) : Prop := c = .ret ∧ Boxed W (N + 1 + 1 + 1) 4 (.bool true) ∧ Below w.heap.size w W
theorem TlI.own (w : World) {N B : Nat} (v : Value) (stop : Int) (hB : w.heap.size ≤ B) : OwnFrom B (TlI w N v stop) := fun _ _ _ _ h hg hr =>
  ⟨boxed_grown h.v hg (fun r e => (hr r e).2), boxed_grown h.s hg (fun r e => (hr r e).2), boxed_grown h.r hg (fun r e => (hr r e).2), boxed_grown h.a hg (fun r e => (hr r e).2), h.b.grown hg h.b.size (fun k e => Nat.le_trans hB (hr k e).1)⟩
theorem TlX.own (w : World) {N B : Nat} (c : Code) (hB : w.heap.size ≤ B) : OwnFrom B (TlX w N c) := fun _ _ _ _ ⟨h1, h2, h3⟩ hg hr =>
  ⟨h1, boxed_grown h2 hg (fun r e => (hr r e).2), h3.grown hg h3.size (fun k e => Nat.le_trans hB (hr k e).1)⟩
theorem TlI.next {w : World} {N : Nat} {v : Value} {stop : Int} {pre : List (Nat × Nat)} {W : World} (h : TlI w N v stop pre W) (hN : w.heap.size ≤ N) (x : Nat × Nat) : TlI w N v stop (pre ++ [x]) (W.setCell ⟨N + 1 + 1 + 1 + 1, 0, none⟩ (.int .i64 ((pre.length : Int) + 1))) :=
  ⟨h.v.other (by omega) _, h.s.other (by omega) _, h.r.other (by omega) _, by have := h.a.set (.int .i64 ((pre.length : Int) + 1)); simpa using this, h.b.setCell (by simp only; omega) _⟩
end Go.Proofs.YtlnjhnbiljkbmaaDoor
