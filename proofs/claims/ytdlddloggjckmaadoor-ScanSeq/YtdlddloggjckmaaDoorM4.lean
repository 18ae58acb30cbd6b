/- The items that scan.steps gives: each token with OK, or a last one with an error, by definition: no program stands in it. -/
import Derived.Test.YtdlddloggjckmaaDoorM3
namespace Go.Proofs.YtdlddloggjckmaaDoor

/-- An item: a token's fields, and an error's number. -/
structure It where
  kind : Int
  at_ : Nat
  text : ByteArray
  n : Int
  err : Int

/-- The item at a place where no blank stands. -/
def itemAt (s : ByteArray) (k : Nat) : It :=
  ⟨tkK (takeR (s.data.toList.drop k)), k, tkS (s.extract k s.size) (takeR (s.data.toList.drop k)), tkN (takeR (s.data.toList.drop k)), tkE (takeR (s.data.toList.drop k))⟩

/-- Where the next item stands. -/
def nextAt (s : ByteArray) (k : Nat) : Nat := passEnd false s.data.toList (k + tkL (takeR (s.data.toList.drop k)))

/-- The items from a place on. -/
def itemsFrom (s : ByteArray) : Nat → Nat → List It
  | 0, _ => []
  | f + 1, k => if k < s.size then itemAt s k :: (if (itemAt s k).err = 0 then itemsFrom s f (nextAt s k) else []) else []

/-- All items of a source. -/
def items (s : ByteArray) : List It := itemsFrom s (s.size + 1) (passEnd false s.data.toList 0)

theorem tkL_le (l : List UInt8) : tkL (takeR l) ≤ l.length := by
  unfold takeR
  cases l with
  | nil => simp [tkL]
  | cons c r =>
    dsimp only
    split
    · unfold letR; split
      · simp [tkL]
      · exact rowLen_le _ _
    · split
      · unfold digR; split
        · simp [tkL]
        · exact rowLen_le _ _
      · unfold sgnR; split
        · simp [tkL]
        · exact (signLen_le _).1

theorem tkL_pos (l : List UInt8) (h0 : 0 < l.length) (h : tkE (takeR l) = 0) : 0 < tkL (takeR l) := by
  cases l with
  | nil => simp at h0
  | cons c r =>
    unfold takeR at h ⊢
    dsimp only at h ⊢
    split at h
    · rename_i hc; rw [if_pos hc]
      unfold letR at h ⊢; split at h
      · simp [tkE] at h
      · rename_i h16; rw [if_neg h16]; exact rowLen_pos isLod (by simp) (by simp [isLod, lodB, show letB c.toNat = true from hc])
    · rename_i hc; rw [if_neg hc]
      split at h
      · rename_i hd; rw [if_pos hd]
        unfold digR at h ⊢; split at h
        · simp [tkE] at h
        · exact rowLen_pos isDig (by simp) (by simpa using hd)
      · rename_i hd; rw [if_neg hd]
        unfold sgnR at h ⊢; split at h
        · simp [tkE] at h
        · rename_i hs; rw [if_neg hs]; show 0 < signLen _; omega

theorem size_drop (s : ByteArray) (k : Nat) : (s.data.toList.drop k).length = s.size - k := by
  rw [List.length_drop, Array.length_toList]; rfl

theorem nextAt_le (s : ByteArray) (k : Nat) (h : k < s.size) : nextAt s k ≤ s.size ∧ k + tkL (takeR (s.data.toList.drop k)) ≤ s.size := by
  have h1 := tkL_le (s.data.toList.drop k)
  rw [size_drop] at h1
  have hl : s.data.toList.length = s.size := by rw [Array.length_toList]; rfl
  unfold nextAt
  refine ⟨?_, by omega⟩
  have := passEnd_le false s.data.toList (k + tkL (takeR (s.data.toList.drop k))) (by omega)
  omega

theorem nextAt_gt (s : ByteArray) (k : Nat) (h : k < s.size) (he : (itemAt s k).err = 0) : k < nextAt s k := by
  have h1 := tkL_pos (s.data.toList.drop k) (by rw [size_drop]; omega) he
  have h2 := passEnd_ge false s.data.toList (k + tkL (takeR (s.data.toList.drop k)))
  unfold nextAt
  omega

theorem itemsFrom_in (s : ByteArray) (f k : Nat) (h : k < s.size) : itemsFrom s (f + 1) k = itemAt s k :: (if (itemAt s k).err = 0 then itemsFrom s f (nextAt s k) else []) := by
  rw [itemsFrom, if_pos h]
theorem itemsFrom_end (s : ByteArray) (f k : Nat) (h : ¬ k < s.size) : itemsFrom s f k = [] := by
  cases f with
  | zero => rfl
  | succ f => rw [itemsFrom, if_neg h]

end Go.Proofs.YtdlddloggjckmaaDoor
