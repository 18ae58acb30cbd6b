/- Where blocks begin: what lies in memory. -/
import Derived.Test.YtoabnkidfapniaaNp
import Derived.Test.YtoabnkidfapniaaNq
namespace Go.Proofs.Ytoabnkidfapniaa
open Go.RowKit Go.Shelf

def mkD (d : Nat) : Deferred := { target := .collected d, args := #[] }
theorem leaves_any {n N : Nat} {fn : Func} {tmps : Array Value} {R : Ending → World → Prop} (Φ : World → Prop) (hΦ : ∀ W d, N ≤ d → W.heap[d]? = some (.deferred (some [])) → Φ W → Φ (W.putObj d (.deferred none))) (hend : ∀ W', Φ W' → LeavesIn Fence.wide n Try.prog fn tmps R [] .returning W') : ∀ (ds : List Nat) (W : World), ds.Nodup → (∀ d ∈ ds, N ≤ d ∧ W.heap[d]? = some (.deferred (some []))) → Φ W → LeavesInM Fence.wide n Try.prog fn tmps R (ds.map mkD) .returning W
  | [], W, _, _, h => hend W h
  | d :: ds, W, hn, hs, h => by
    obtain ⟨hd, hK⟩ := hs d (by simp)
    obtain ⟨hn1, hn2⟩ := List.nodup_cons.1 hn
    have hne : ∀ x ∈ ds, x ≠ d := fun x hx e => hn1 (e ▸ hx)
    refine ⟨by simp, .inl ⟨d, _, rfl, run_takeDeferred hK, leaves_any Φ hΦ hend ds _ hn2 (fun x hx => ⟨(hs x (by simp [hx])).1, ?_⟩) (hΦ W d hd hK h)⟩⟩
    exact (World.putObj_heap_other (hne x hx)).trans (hs x (by simp [hx])).2
/-- A box stays where a block of another type is written. -/
theorem boxed_set {W : World} {x g : Nat} {t T : TypeId} {v : Value} {cur : Array Value} {fz : Nat × Nat} (h : Boxed W x t v) (hg : W.heap[g]? = some (.cells cur T fz)) (hT : t ≠ T) (i : Nat) (u : Value) : Boxed (W.setCell ⟨g, i, none⟩ u) x t v := by
  refine (Below.heap_setCell _ _ _ _ ?_).trans h
  intro e
  simp only at e
  subst e
  rw [show W.heap[x]? = _ from h] at hg
  cases hg
  exact hT rfl
/-- A row stays where another block is written. -/
theorem own_off {W : World} {N n sz g : Nat} {T : TypeId} {v : Value} {xs : List Value} (h : W.ownsRow N T sz v n xs) (hne : v.ownBlock ≠ some g) (i : Nat) (u : Value) : (W.setCell ⟨g, i, none⟩ u).ownsRow N T sz v n xs := by
  refine ⟨h.1, ?_⟩
  rcases h.2 with h0 | ⟨k, cap, cur, rfl, h1, h2, h3⟩
  · exact .inl h0
  · exact .inr ⟨k, cap, cur, rfl, h1, (Below.heap_setCell _ _ _ _ (fun e => hne (by simp [Value.ownBlock, e]))).trans h2, h3⟩
/-- What lies where. -/
structure BI (w : World) (n x3 xf xi gf gi : Nat) (vb : Value) (bs : List Bool) (fr it : List Nat) (W : World) : Prop where
  b3 : Boxed W x3 37 vb
  bf : Boxed W xf 27 (.slice (some ⟨gf, 0, none⟩) n n)
  bi : Boxed W xi 27 (.slice (some ⟨gi, 0, none⟩) n n)
  r : Ob w.heap.size bs vb W
  f : On w.heap.size fr (.slice (some ⟨gf, 0, none⟩) n n) W
  i : On w.heap.size it (.slice (some ⟨gi, 0, none⟩) n n) W
  ne : gf ≠ gi
  b : Below w.heap.size w W
section
variable {w : World} {n x3 xf xi gf gi : Nat} {vb : Value} {bs : List Bool} {fr it : List Nat} {W W' : World}
theorem BI.grown (h : BI w n x3 xf xi gf gi vb bs fr it W) {row : Option Nat} {B : Nat} (hB : w.heap.size ≤ B) (hg : W.grownBy W' row) (hr : ∀ r, row = some r → B ≤ r ∧ ∃ o : Obj, W.heap[r]? = some o ∧ o.isCells = false) : BI w n x3 xf xi gf gi vb bs fr it W' :=
  ⟨boxed_grown h.b3 hg (fun r e => (hr r e).2), boxed_grown h.bf hg (fun r e => (hr r e).2), boxed_grown h.bi hg (fun r e => (hr r e).2), own_grown h.r hg (fun r e => (hr r e).2), own_grown h.f hg (fun r e => (hr r e).2), own_grown h.i hg (fun r e => (hr r e).2), h.ne, h.b.grown hg h.b.size (fun k e => Nat.le_trans hB (hr k e).1)⟩
theorem BI.stay (h : BI w n x3 xf xi gf gi vb bs fr it W) (hb : Below W.heap.size W W') : BI w n x3 xf xi gf gi vb bs fr it W' :=
  ⟨boxed_stay h.b3 hb, boxed_stay h.bf hb, boxed_stay h.bi hb, own_stay h.r hb, own_stay h.f hb, own_stay h.i hb, h.ne, Below.on h.b hb⟩
theorem BI.putF (h : BI w n x3 xf xi gf gi vb bs fr it W) (u k : Nat) : BI w n x3 xf xi gf gi vb bs (fr.set u k) it (W.setCell ⟨gf, u, none⟩ (.int .i64 (k : Int))) := by
  obtain ⟨cur, hc, hN⟩ := own_blk h.f
  exact ⟨boxed_set h.b3 hc (by decide) _ _, boxed_set h.bf hc (by decide) _ _, boxed_set h.bi hc (by decide) _ _, own_set h.r hc (by decide) _ _, on_put h.f u k, own_off h.i (fun e => h.ne (by simpa [Value.ownBlock] using e.symm)) _ _, h.ne, h.b.setCell (by simp only; omega) _⟩
theorem BI.putI (h : BI w n x3 xf xi gf gi vb bs fr it W) (u k : Nat) : BI w n x3 xf xi gf gi vb bs fr (it.set u k) (W.setCell ⟨gi, u, none⟩ (.int .i64 (k : Int))) := by
  obtain ⟨cur, hc, hN⟩ := own_blk h.i
  exact ⟨boxed_set h.b3 hc (by decide) _ _, boxed_set h.bf hc (by decide) _ _, boxed_set h.bi hc (by decide) _ _, own_set h.r hc (by decide) _ _, own_off h.f (fun e => h.ne (by simpa [Value.ownBlock] using e)) _ _, on_put h.i u k, h.ne, h.b.setCell (by simp only; omega) _⟩
theorem BI.putB {gb m c : Nat} (h : BI w n x3 xf xi gf gi (.slice (some ⟨gb, 0, none⟩) m c) bs fr it W) (v : Nat) (b : Bool) : BI w n x3 xf xi gf gi (.slice (some ⟨gb, 0, none⟩) m c) (bs.set v b) fr it (W.setCell ⟨gb, v, none⟩ (.bool b)) := by
  obtain ⟨cur, hc, hN⟩ := own_blk h.r
  exact ⟨boxed_set h.b3 hc (by decide) _ _, boxed_set h.bf hc (by decide) _ _, boxed_set h.bi hc (by decide) _ _, ob_put h.r v b, own_set h.f hc (by decide) _ _, own_set h.i hc (by decide) _ _, h.ne, h.b.setCell (by simp only; omega) _⟩
end
theorem BI.own (w : World) (n x3 xf xi gf gi : Nat) (vb : Value) {α : Type} (bs : α → List Bool) (fr it : α → List Nat) {B : Nat} (hB : w.heap.size ≤ B) : OwnFrom B (fun (p : α) W => BI w n x3 xf xi gf gi vb (bs p) (fr p) (it p) W) := fun _ _ _ _ h hg hr => h.grown hB hg hr
def BkX (_ : Code) (_ : List (Nat × Nat)) (_ : World) : Prop := False
theorem BkX.own (B : Nat) (c : Code) : OwnFrom B (BkX c) := fun _ _ _ _ h _ _ => h.elim
def BlP (l : List Is) (w : World) (e : Ending) (w' : World) : Prop := ∃ v rs, e = .returned v ∧ IsR l rs ∧ On w.heap.size (blk l rs) v w' ∧ Below w.heap.size w w'
end Go.Proofs.Ytoabnkidfapniaa
