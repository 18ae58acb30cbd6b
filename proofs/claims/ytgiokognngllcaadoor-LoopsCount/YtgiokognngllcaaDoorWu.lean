/- LoopsCount: the beginning and the end of taking away, plain. -/
import Derived.Test.YtgiokognngllcaaDoorWl
namespace Go.Proofs.YtgiokognngllcaaDoor
open Go.RowKit Go.Sort

/-- Pieces of code. -/
noncomputable def cdR : Code → Code | .seq _ b => b | c => c
noncomputable def cdL : Code → Code | .seq a _ => a | c => c
noncomputable def cdI : Code → Code | .block _ c => c | .loop c => c | c => c
theorem isr_len {l : List Is} {rs : List Bool} (hr : IsR l rs) (hn : l.length ≤ 1024) : rs.length = l.length := by
  rcases hr with ⟨h1, rfl⟩ | ⟨_, _, h3, _⟩
  · simp; omega
  · exact h3
theorem kh_zero {l : List Is} {rs : List Bool} (es : List (Nat × Nat)) (hr : IsR l rs) (hn : l.length ≤ 1024) : Kh l es (inN l.length es) (tdL rs es l.length) 0 ∧ ∀ v ∈ tdL rs es l.length, v < l.length := by
  have hlt : ∀ v ∈ tdL rs es l.length, v < l.length := fun v hv => by
    unfold tdL at hv
    rw [List.mem_filter, List.mem_range] at hv
    exact hv.1
  refine ⟨?_, hlt⟩
  by_cases h0 : 0 < l.length
  · rcases hr with ⟨h1, rfl⟩ | ⟨_, _, _, h4⟩
    · omega
    · exact Kh.start h4 h0
  · refine ⟨List.nodup_range.filter _, fun v hv => ?_, fun v hv => absurd hv (by omega)⟩
    have := hlt v hv
    omega
theorem kh_le {l : List Is} {rs : List Bool} (hr : IsR l rs) (hn : l.length ≤ 1024) {todo : List Nat} (hd : todo.Nodup) (hm : ∀ v ∈ todo, Rch l v) (hlt : ∀ v ∈ todo, v < l.length) : todo.length ≤ (rcL rs l.length).length := by
  by_cases h0 : 0 < l.length
  · rcases hr with ⟨h1, rfl⟩ | ⟨_, _, _, h4⟩
    · omega
    · exact todo_len h4 h0 hd hm
  · cases todo with
    | nil => simp
    | cons x xs =>
      have := hlt x (List.mem_cons_self ..)
      omega
theorem kh_ge {l : List Is} {rs : List Bool} {es : List (Nat × Nat)} (hr : IsR l rs) (hn : l.length ≤ 1024) (hk : kntZ l = none) (he : ∀ u v, (u, v) ∈ es → Ah l u v) {into todo : List Nat} {i : Nat} (h : Kh l es into todo i) (hi : todo.length ≤ i) : (rcL rs l.length).length ≤ todo.length := by
  by_cases h0 : 0 < l.length
  · rcases hr with ⟨h1, rfl⟩ | ⟨_, _, _, h4⟩
    · omega
    · exact todo_all h4 h0 (h.done h0 (kntZ_none h0 hk) he hi)
  · have := rcL_len rs l.length
    omega
end Go.Proofs.YtgiokognngllcaaDoor
