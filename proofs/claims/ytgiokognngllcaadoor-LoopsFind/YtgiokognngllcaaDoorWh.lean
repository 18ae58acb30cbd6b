/- ref14.Lists: the memory of its loop: rows in one block. -/
import Derived.Test.YtgiokognngllcaaDoorTs
import Derived.Test.YtgiokognngllcaaDoorTv
namespace Go.Proofs.YtgiokognngllcaaDoor
open Go.RowKit Go.Sort

structure LG (w : World) (n F N : Nat) (fr : Nat → List Nat) (vs : List Value) (W : World) : Prop where
  f : W.heap[F]? = some (.cells vs.toArray 38 (0, 0))
  len : vs.length = n
  rows : ∀ j, j < n → On N (fr j) (vs.getD j undef) W
  ap : ∀ i j, i < n → j < n → i ≠ j → Apart (vs.getD i undef) (vs.getD j undef)
  b : Below w.heap.size w W
  sz : N ≤ W.heap.size
theorem LG.start {w W : World} {n F N : Nat} {fr : Nat → List Nat} (hfr : ∀ j, fr j = []) (f : W.heap[F]? = some (.cells (mkR n) 38 (0, 0))) (b : Below w.heap.size w W) (sz : N ≤ W.heap.size) : LG w n F N fr (List.replicate n (.slice none 0 0)) W := by
  have hr : ∀ j, j < n → (List.replicate n (Value.slice none 0 0)).getD j undef = .slice none 0 0 := fun j hj => by rw [List.getD_eq_getElem?_getD, List.getElem?_replicate, if_pos hj]; rfl
  refine ⟨by rw [← mkR_eq]; exact f, by simp, fun j hj => ?_, fun i j hi hj _ => ?_, b, sz⟩
  · rw [hr j hj, hfr]; exact on_nil _ _
  · rw [hr i hi]; exact .inl rfl
theorem LG.stay {w : World} {n F N : Nat} {fr : Nat → List Nat} {vs : List Value} {W W' : World} (h : LG w n F N fr vs W) (hb : Below W.heap.size W W') : LG w n F N fr vs W' :=
  ⟨blk_stay h.f hb, h.len, fun j hj => own_stay (h.rows j hj) hb, h.ap, Below.on h.b hb, Nat.le_trans h.sz hb.size⟩
theorem LG.drew {w : World} {n F N : Nat} {fr : Nat → List Nat} {vs : List Value} {W : World} (h : LG w n F N fr vs W) : LG w n F N fr vs W.drew := ⟨h.f, h.len, h.rows, h.ap, Below.drew h.b, h.sz⟩
theorem LG.next {w : World} {n F N : Nat} {fr fr' : Nat → List Nat} {vs : List Value} {W W' : World} {v u : Nat} {v' : Value} (h : LG w n F N fr vs W) (hv : v < n) (hwF : w.heap.size ≤ F) (hwN : w.heap.size ≤ N)
    (hn : On N (fr v ++ [u]) v' W') (hg : W.grownBy W' (vs.getD v undef).ownBlock) (ho : v'.ownBlock = (vs.getD v undef).ownBlock ∨ v'.ownBlock = some (W.heap.size + 1)) (e1 : fr' v = fr v ++ [u]) (e2 : ∀ j, j ≠ v → fr' j = fr j) :
    LG w n F N fr' (vs.set v v') (W'.setCell ⟨F, v, none⟩ v') := by
  have hl := h.len
  have hne := row_ne h.f (h.rows v hv)
  have hf' : W'.heap[F]? = some (.cells vs.toArray 38 (0, 0)) := (hg.block F (Array.getElem?_eq_some_iff.1 h.f).1 (Ne.symm hne)).trans h.f
  have keep : ∀ {m : Nat} {q : Value} {xs : List Value}, W'.ownsRow N 3 1 q m xs → (W'.setCell ⟨F, v, none⟩ v').ownsRow N 3 1 q m xs := fun {m q xs} hq => by
    refine hq.kept (row := some F) ⟨rfl, rfl, rfl, by simp, fun k _ hk => heap_setCell_other W' ⟨F, v, none⟩ k v' fun e => hk (by rw [e])⟩ (.inr (row_ne hf' hq))
  refine ⟨?_, by rw [List.length_set, hl], fun j hj => ?_, fun i j hi hj hij => ?_, ?_, by simp only [World.setCell, Array.size_modify]; exact Nat.le_trans h.sz hg.size⟩
  · have := heap_setCell_same W' F v vs.toArray 38 v' hf'
    rw [List.setIfInBounds_toArray] at this
    exact this
  · rw [vs_set (by omega)]
    split
    · rename_i e; subst e; rw [e1]; exact keep hn
    · rename_i e
      rw [e2 j e]
      exact keep ((h.rows j hj).kept hg (h.ap j v hj hv e))
  · rw [vs_set (by omega), vs_set (by omega)]
    have fresh : ∀ {a : Nat}, a < n → Apart (vs.getD a undef) (vs.getD v undef) → Apart (vs.getD a undef) v' := fun {a} ha hap => Apart.next hap (h.rows a ha) ho
    split
    · rename_i e
      subst e
      rw [if_neg (Ne.symm hij)]
      exact (fresh hj (h.ap j i hj hi (Ne.symm hij))).symm
    · rename_i e
      split
      · rename_i e3; subst e3; exact fresh hi (h.ap i j hi hj hij)
      · exact h.ap i j hi hj hij
  · refine Below.setCell (p := ⟨F, v, none⟩) ?_ hwF v'
    exact h.b.grown hg h.b.size fun k e => by have := own_base (h.rows v hv) k e; omega
/-- Read as rows. -/
theorem LG.lsr {w : World} {n F N : Nat} {fr : Nat → List Nat} {vs : List Value} {W : World} (h : LG w n F N fr vs W) : LsR W (some ⟨F, 0, none⟩) n fr := fun j hj => by
  have hr := h.rows j hj
  obtain ⟨aj, cj, e⟩ := gown_form hr
  refine ⟨F, 0, aj, cj, rfl, ?_, ?_⟩
  · rw [Nat.zero_add, ← e]
    exact cell_of_obj h.f (by rw [List.getElem?_toArray]; exact vs_at (by rw [h.len]; exact hj))
  · rw [e] at hr
    exact own_lst hr
/-- What Lists tells. -/
def LiP (n : Nat) (fr : Nat → List Nat) (w : World) (e : Ending) (w' : World) : Prop := ∃ F vs, e = .returned (.slice (some ⟨F, 0, none⟩) n n) ∧ LG w n F w.heap.size fr vs w' ∧ w.heap.size ≤ F
end Go.Proofs.YtgiokognngllcaaDoor
