/- The marks that a range over a function leaves among the deferred calls. -/
import Derived.Test.YtlkoigdnakmdlaaDoorIg
import Derived.Test.YtlkoigdnakmdlaaDoorLk
namespace Go.Proofs.YtlkoigdnakmdlaaDoor
open Go.RowKit Go.Shelf

def mkD (d : Nat) : Deferred := { target := .collected d, args := #[] }
/-- The deferred records are marks of blocks of their own. -/
def Mk (N : Nat) (D : List Deferred) (W : World) : Prop := ∃ ds : List Nat, D = ds.map mkD ∧ ds.Nodup ∧ ∀ d ∈ ds, N ≤ d ∧ W.heap[d]? = some (.deferred (some []))
theorem Mk.nil (N : Nat) (W : World) : Mk N [] W := ⟨[], rfl, List.nodup_nil, by simp⟩
theorem Mk.stay {N : Nat} {D : List Deferred} {W W' : World} (h : Mk N D W) (hb : Below W.heap.size W W') : Mk N D W' := by
  obtain ⟨ds, e, hn, hd⟩ := h
  refine ⟨ds, e, hn, fun d hm => ⟨(hd d hm).1, ?_⟩⟩
  have := (hd d hm).2
  exact (hb.block _ (Array.getElem?_eq_some_iff.1 this).1).trans this
theorem Mk.cons {N : Nat} {D : List Deferred} {W W' : World} (h : Mk N D W) (hb : Below W.heap.size W W') {d : Nat} (hN : N ≤ W.heap.size) (hd : W.heap.size ≤ d) (hK : W'.heap[d]? = some (.deferred (some []))) : Mk N (mkD d :: D) W' := by
  have h' := h.stay hb
  obtain ⟨ds, rfl, hn, hs⟩ := h
  obtain ⟨ds', e', hn', hs'⟩ := h'
  have hlt : ∀ x ∈ ds, x < W.heap.size := fun x hx => (Array.getElem?_eq_some_iff.1 (hs x hx).2).1
  have hs2 : ∀ x ∈ ds, N ≤ x ∧ W'.heap[x]? = some (.deferred (some [])) := fun x hx => ⟨(hs x hx).1, (hb.block _ (hlt x hx)).trans (hs x hx).2⟩
  refine ⟨d :: ds, rfl, List.nodup_cons.2 ⟨fun hm => by have := hlt d hm; omega, hn⟩, fun x hx => ?_⟩
  rcases List.mem_cons.1 hx with rfl | hx
  · exact ⟨by omega, hK⟩
  · exact hs2 x hx
theorem leaves_marks {n B : Nat} {fn : Func} {tmps : Array Value} {R : Ending → World → Prop} {t : TypeId} {v : Value} {w : World} (hend : ∀ W', Boxed W' B t v → Below w.heap.size w W' → LeavesIn Fence.wide n Tryd.prog fn tmps R [] .returning W') : ∀ (ds : List Nat) (W : World), ds.Nodup → (∀ d ∈ ds, w.heap.size ≤ d ∧ W.heap[d]? = some (.deferred (some []))) → Boxed W B t v → Below w.heap.size w W → LeavesInM Fence.wide n Tryd.prog fn tmps R (ds.map mkD) .returning W
  | [], W, _, _, hB, hb => hend W hB hb
  | d :: ds, W, hn, hs, hB, hb => by
    obtain ⟨hd, hK⟩ := hs d (by simp)
    obtain ⟨hn1, hn2⟩ := List.nodup_cons.1 hn
    have hne : ∀ x ∈ ds, x ≠ d := fun x hx e => hn1 (e ▸ hx)
    refine ⟨by simp, .inl ⟨d, _, rfl, run_takeDeferred hK, leaves_marks hend ds _ hn2 (fun x hx => ⟨(hs x (by simp [hx])).1, ?_⟩) (put_boxed hB _ hK rfl) ?_⟩⟩
    · exact (World.putObj_heap_other (hne x hx)).trans (hs x (by simp [hx])).2
    · exact hb.trans (belowK_b (w := w) (Nat.le_refl _) _ d _ _ hd hK rfl rfl)
theorem Mk.leaves {n B : Nat} {fn : Func} {tmps : Array Value} {R : Ending → World → Prop} {t : TypeId} {v : Value} {w W : World} {D : List Deferred} (h : Mk w.heap.size D W) (hB : Boxed W B t v) (hb : Below w.heap.size w W) (hend : ∀ W', Boxed W' B t v → Below w.heap.size w W' → LeavesIn Fence.wide n Tryd.prog fn tmps R [] .returning W') : LeavesInM Fence.wide n Tryd.prog fn tmps R D .returning W := by
  obtain ⟨ds, rfl, hn, hd⟩ := h
  exact leaves_marks hend ds W hn hd hB hb
theorem Mk.set {N : Nat} {D : List Deferred} {W : World} {B : Nat} {t : TypeId} {v : Value} (h : Mk N D W) (hB : Boxed W B t v) (v' : Value) : Mk N D (W.setCell ⟨B, 0, none⟩ v') := by
  obtain ⟨ds, e, hn, hd⟩ := h
  refine ⟨ds, e, hn, fun d hm => ⟨(hd d hm).1, ?_⟩⟩
  have h1 := (hd d hm).2
  refine (Below.heap_setCell _ _ _ _ ?_).trans h1
  intro e
  have h2 : W.heap[B]? = _ := hB
  simp only at e
  rw [e, h2] at h1
  cases h1
theorem below_alloc_on {W W' : World} {o : Obj} (h : Below (W.alloc o).heap.size (W.alloc o) W') : Below W.heap.size W W' := Below.on (Below.one (Below.refl _ W) o) h
theorem keepsFrom_refl' (B : Nat) (W : World) : KeepsFrom B W W := (KeepsOthers.refl W).from B
/-- What the range over the registers keeps. -/
def RdI (w2 : World) (_ : List Int) (W : World) : Prop := Below w2.heap.size w2 W
def RdX (L : List Int) (_ : Code) (pre : List Int) (_ : World) : Prop := ¬ pre <+: L
end Go.Proofs.YtlkoigdnakmdlaaDoor
