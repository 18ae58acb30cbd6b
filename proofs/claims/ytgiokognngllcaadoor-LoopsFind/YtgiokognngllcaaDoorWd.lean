/- ref14.Split: the memory of its loop. -/
import Derived.Test.YtgiokognngllcaaDoorTb
import Derived.Test.YtgiokognngllcaaDoorTv
import Derived.Test.YtgiokognngllcaaDoorGgag
import Derived.Maps.AppendAt
namespace Go.Proofs.YtgiokognngllcaaDoor
open Go.RowKit Go.Sort

theorem oe_app_at {N : Nat} {l : List (Nat × Nat)} {v : Value} {W : World} (h : Oe N l v W) (hN : N ≤ W.heap.size) (hl : l.length ≤ 1000000) (x y : Nat) (ty : TypeId) :
    ∃ v' W', (Builtin.append_ #[46, 46] ty #[v, .slice (some ⟨W.heap.size, 0, none⟩) 1 1]).run Tryd.prog (W.alloc (.cells #[.int .i64 (x : Int), .int .i64 (y : Int)] 49)) = .ok v' W' ∧ Oe N (l ++ [(x, y)]) v' W' ∧ W.grownBy W' v.ownBlock ∧
      (v'.ownBlock = v.ownBlock ∨ v'.ownBlock = some (W.heap.size + 1)) := by
  obtain ⟨i0, hi, hz0, hz1, hz2⟩ := info_parts Tryd.infoE
  obtain ⟨v', W', hr, h2, h3, _, h4⟩ := run_append_own_at (P := Tryd.prog) (W.alloc (.cells #[.int .i64 (x : Int), .int .i64 (y : Int)] 49)) N 46 ty 49 i0 (.agg #[.int .i64 0, .int .i64 0]) 2 16 Tryd.underlying46 hi hz0 hz1 hz2 rfl (by decide) v _ _ (h.alloc _) ⟨W.heap.size, 0, none⟩ 1 1 [.int .i64 (x : Int), .int .i64 (y : Int)] rfl (fun j u hu => by
    rw [Addr.add_lit, Nat.zero_add]
    exact new_cell _ _ _ _ _ (by rw [← hu, ← Array.getElem?_toList])) (by simp [Value.oneCell']) (by unfold maxLen; omega) (by omega) (by simp; omega)
  refine ⟨v', W', hr, ?_, grown_of_alloc h3, by rwa [World.size_alloc] at h4⟩
  unfold Oe
  rw [List.length_append, List.flatMap_append]
  exact h2
/-- The edges, those ahead, those back: rows apart. -/
structure SI (l : List Is) (N : Nat) (es pre : List (Nat × Nat)) (ve va vb : Value) (w1 W : World) : Prop where
  e : Oe N es ve W
  a : Oe N (ahdE l pre) va W
  b : Oe N (bacE l pre) vb W
  ea : Apart ve va
  eb : Apart ve vb
  ab : Apart va vb
  bl : Below N w1 W
theorem SI.stay {l : List Is} {N : Nat} {es pre : List (Nat × Nat)} {ve va vb : Value} {w1 W W' : World} (h : SI l N es pre ve va vb w1 W) (hN : N ≤ W.heap.size) (hb : Below W.heap.size W W') : SI l N es pre ve va vb w1 W' :=
  ⟨own_stay h.e hb, own_stay h.a hb, own_stay h.b hb, h.ea, h.eb, h.ab, h.bl.trans (hb.mono hN)⟩
theorem SI.back {l : List Is} {N u v : Nat} {es pre : List (Nat × Nat)} {ve va vb vb' : Value} {w1 W W' : World} (h : SI l N es pre ve va vb w1 W) (hN : N ≤ W.heap.size) (hg : W.grownBy W' vb.ownBlock) (ho : Oe N (bacE l pre ++ [(u, v)]) vb' W') (hv : vb'.ownBlock = vb.ownBlock ∨ vb'.ownBlock = some (W.heap.size + 1)) (hk : pD (Dm l v u) = true) :
    SI l N es (pre ++ [(u, v)]) ve va vb' w1 W' :=
  ⟨h.e.kept hg h.eb, by rw [ahdE_snoc, if_pos hk]; exact h.a.kept hg h.ab, by rw [bacE_snoc, if_pos hk]; exact ho, h.ea, h.eb.next h.e hv, h.ab.next h.a hv, h.bl.grown hg hN (fun k e => own_base h.b k e)⟩
theorem SI.ahead {l : List Is} {N u v : Nat} {es pre : List (Nat × Nat)} {ve va vb va' : Value} {w1 W W' : World} (h : SI l N es pre ve va vb w1 W) (hN : N ≤ W.heap.size) (hg : W.grownBy W' va.ownBlock) (ho : Oe N (ahdE l pre ++ [(u, v)]) va' W') (hv : va'.ownBlock = va.ownBlock ∨ va'.ownBlock = some (W.heap.size + 1)) (hk : ¬ pD (Dm l v u) = true) :
    SI l N es (pre ++ [(u, v)]) ve va' vb w1 W' :=
  ⟨h.e.kept hg h.ea, by rw [ahdE_snoc, if_neg hk]; exact ho, by rw [bacE_snoc, if_neg hk]; exact h.b.kept hg h.ab.symm, h.ea.next h.e hv, h.eb, (h.ab.symm.next h.b hv).symm, h.bl.grown hg hN (fun k e => own_base h.a k e)⟩
/-- What Split tells. -/
def SpP (l : List Is) (w : World) (e : Ending) (w' : World) : Prop := ∃ va vb rs, e = .returned (.tuple #[va, vb]) ∧ IsR l rs ∧ Oe w.heap.size (ahdE l (edg l rs)) va w' ∧ Oe w.heap.size (bacE l (edg l rs)) vb w' ∧ Apart va vb ∧ Below w.heap.size w w'
end Go.Proofs.YtgiokognngllcaaDoor
