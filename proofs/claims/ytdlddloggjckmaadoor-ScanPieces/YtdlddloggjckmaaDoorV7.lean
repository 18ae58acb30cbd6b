/- soffitlaw01.ScanPieces answers true at every two sources: the ways put together. -/
import Derived.Test.YtdlddloggjckmaaDoorW7
namespace Go.Proofs.YtdlddloggjckmaaDoor
open Go.RowKit

theorem itemsFrom_at (s : ByteArray) : ∀ f k, ∀ y ∈ itemsFrom s f k, y.at_ < s.size
  | 0, _, y, hy => by simp [itemsFrom] at hy
  | f + 1, k, y, hy => by
    rw [itemsFrom] at hy
    split at hy
    · rename_i hk
      rcases List.mem_cons.1 hy with h | h
      · rw [h]; exact hk
      · split at h
        · exact itemsFrom_at s f _ y h
        · simp at h
    · simp at hy

theorem docAt_bounds (s : ByteArray) (h : s.size ≤ 65536) : 0 ≤ docAt s ∧ docAt s ≤ 65536 := by
  rcases doc_cases s h with ⟨_, a2, _, _⟩ | ⟨_, _, _, pre, x, a5, _, a7⟩
  · rw [a2]; exact ⟨by decide, by decide⟩
  · have hx : x.at_ < s.size := itemsFrom_at s _ _ x (by rw [← items, a5]; simp)
    omega

theorem scanPieces_any (a b : ByteArray) (w : World) (ha : a.size ≤ maxLen) (hb : b.size ≤ maxLen) (hv : VarOk w) : Calls Tryd.prog 7 #[.string a, .string b] w fun e w' => e = .returned (.bool true) ∧ Below w.heap.size w w' := by
  by_cases h : a.size + b.size < 65536
  · obtain ⟨j1, j2, j3⟩ := doc_join a b h
    have hA := all_ans a
    have hB := all_ans b
    have hC := all_ans (joined a b)
    by_cases e1 : docEr a = 0
    · by_cases e2 : docEr b = 0
      · obtain ⟨c1, c2, c3⟩ := j3 e1 e2
        have a2 : docAt a = 0 := by
          rcases doc_cases a (by omega) with ⟨_, a2, _, _⟩ | ⟨h1, _⟩
          · exact a2
          · exact (h1 e1).elim
        have b2 : docAt b = 0 := by
          rcases doc_cases b (by omega) with ⟨_, a2, _, _⟩ | ⟨h1, _⟩
          · exact a2
          · exact (h1 e2).elim
        rw [e1, a2] at hA
        rw [e2, b2] at hB
        rw [c1, c2, c3] at hC
        refine pieces_ok a b (docXs a) (docXs b) w hv h (docXs_len a) (docXs_len b) (fun y hy => ?_) hA hB hC
        unfold docXs at hy
        split at hy
        · have := itemsFrom_at b _ _ y hy; omega
        · simp at hy
      · obtain ⟨c1, c2, c3⟩ := j2 e1 e2
        rw [c3] at hC
        obtain ⟨q1, q2⟩ := docAt_bounds b (by omega)
        exact pieces_err a b _ _ _ _ _ _ _ _ w hv h hA hB hC (.inr ⟨by rw [e1]; rfl, by simpa using e2, c1, c2, q1, q2⟩)
    · obtain ⟨c1, c2, c3⟩ := j1 e1
      rw [c3] at hC
      exact pieces_err a b _ _ _ _ _ _ _ _ w hv h hA hB hC (.inl ⟨by simpa using e1, c1, c2⟩)
  · exact pieces_long a b w hv h ha hb

end Go.Proofs.YtdlddloggjckmaaDoor
