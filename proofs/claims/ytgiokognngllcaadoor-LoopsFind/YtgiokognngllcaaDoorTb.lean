/- What Find tells: plain. -/
import Derived.Test.YtgiokognngllcaaDoorTa
import Derived.Test.YtgiokognngllcaaDoorGgag
namespace Go.Proofs.YtgiokognngllcaaDoor

/-- Where edges come from, and where they lead. -/
def intL (es : List (Nat × Nat)) (v : Nat) : List Nat := (es.filter fun e => e.2 == v).map (·.1)
def outL (es : List (Nat × Nat)) (u : Nat) : List Nat := (es.filter fun e => e.1 == u).map (·.2)
theorem intL_nil (v : Nat) : intL [] v = [] := rfl
theorem outL_nil (v : Nat) : outL [] v = [] := rfl
theorem intL_snoc (es : List (Nat × Nat)) (u v w : Nat) : intL (es ++ [(u, v)]) w = if v = w then intL es w ++ [u] else intL es w := by
  unfold intL
  rw [List.filter_append]
  by_cases e : v = w
  · subst e; simp
  · rw [if_neg e]; simp [e]
theorem outL_snoc (es : List (Nat × Nat)) (u v w : Nat) : outL (es ++ [(u, v)]) w = if u = w then outL es w ++ [v] else outL es w := by
  unfold outL
  rw [List.filter_append]
  by_cases e : u = w
  · subst e; simp
  · rw [if_neg e]; simp [e]
theorem mem_intL {es : List (Nat × Nat)} {u v : Nat} : u ∈ intL es v ↔ (u, v) ∈ es := by
  unfold intL
  rw [List.mem_map]
  constructor
  · rintro ⟨⟨x, y⟩, hm, rfl⟩
    rw [List.mem_filter] at hm
    obtain ⟨h1, h2⟩ := hm
    simp only [beq_iff_eq] at h2
    subst h2
    exact h1
  · intro hm
    exact ⟨(u, v), List.mem_filter.2 ⟨hm, by simp⟩, rfl⟩
theorem mem_outL {es : List (Nat × Nat)} {u v : Nat} : v ∈ outL es u ↔ (u, v) ∈ es := by
  unfold outL
  rw [List.mem_map]
  constructor
  · rintro ⟨⟨x, y⟩, hm, rfl⟩
    rw [List.mem_filter] at hm
    obtain ⟨h1, h2⟩ := hm
    simp only [beq_iff_eq] at h2
    subst h2
    exact h1
  · intro hm
    exact ⟨(u, v), List.mem_filter.2 ⟨hm, by simp⟩, rfl⟩
theorem intL_len (es : List (Nat × Nat)) (v : Nat) : (intL es v).length ≤ es.length := by
  unfold intL; rw [List.length_map]; exact List.length_filter_le _ _
theorem outL_len (es : List (Nat × Nat)) (v : Nat) : (outL es v).length ≤ es.length := by
  unfold outL; rw [List.length_map]; exact List.length_filter_le _ _
theorem intL_app (a b : List (Nat × Nat)) (v : Nat) : intL (a ++ b) v = intL a v ++ intL b v := by unfold intL; simp

noncomputable def bkB (l : List Is) (e : Nat × Nat) : Bool := pD (Dm l e.2 e.1)
noncomputable def bacE (l : List Is) (es : List (Nat × Nat)) : List (Nat × Nat) := es.filter (bkB l)
noncomputable def ahdE (l : List Is) (es : List (Nat × Nat)) : List (Nat × Nat) := es.filter fun e => !bkB l e
theorem bacE_snoc (l : List Is) (es : List (Nat × Nat)) (u v : Nat) : bacE l (es ++ [(u, v)]) = if pD (Dm l v u) = true then bacE l es ++ [(u, v)] else bacE l es := by
  unfold bacE
  rw [List.filter_append]
  cases e : pD (Dm l v u) <;> simp [bkB, e]
theorem ahdE_snoc (l : List Is) (es : List (Nat × Nat)) (u v : Nat) : ahdE l (es ++ [(u, v)]) = if pD (Dm l v u) = true then ahdE l es else ahdE l es ++ [(u, v)] := by
  unfold ahdE
  rw [List.filter_append]
  cases e : pD (Dm l v u) <;> simp [bkB, e]
theorem bacE_len (l : List Is) (es : List (Nat × Nat)) : (bacE l es).length ≤ es.length := List.length_filter_le _ _
theorem ahdE_len (l : List Is) (es : List (Nat × Nat)) : (ahdE l es).length ≤ es.length := List.length_filter_le _ _
/-- Is there an edge ahead from a greater one? -/
noncomputable def abvB (l : List Is) (es : List (Nat × Nat)) (v : Nat) : Bool := (ahdE l es).any fun e => e.2 == v && decide (v < e.1)
end Go.Proofs.YtgiokognngllcaaDoor
