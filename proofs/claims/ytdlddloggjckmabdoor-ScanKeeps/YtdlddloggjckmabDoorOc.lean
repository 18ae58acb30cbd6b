/- The cells of a row that is owned. -/
import Derived.Test.YtdlddloggjckmabDoorG
namespace Go.Proofs.YtdlddloggjckmabDoor
open Go.RowKit

/-- The cells of a row that is owned. -/
theorem owns_cells {W : World} {base k : Nat} {v : Value} {xs : List Value} (h : W.ownsRow base 29 4 v k xs) (hk : 0 < k) :
    ∃ g cap, v = .slice (some ⟨g, 0, none⟩) k cap ∧ base ≤ g ∧ g < W.heap.size ∧ k ≤ cap ∧ ∀ j u, xs[j]? = some u → W.cell? ⟨g, j, none⟩ = some u := by
  rcases h.2 with ⟨_, h0⟩ | ⟨g, cap, cur, rfl, hg, hc, hcap, _, hsz, ht⟩
  · omega
  · refine ⟨g, cap, rfl, hg, (Array.getElem?_eq_some_iff.1 hc).1, hcap, fun j u hj => ?_⟩
    have hj' : cur[j]? = some u := by
      rw [← ht, List.getElem?_take] at hj
      split at hj
      · simpa using hj
      · cases hj
    simp [World.cell?, hc, hj']

end Go.Proofs.YtdlddloggjckmabDoor
