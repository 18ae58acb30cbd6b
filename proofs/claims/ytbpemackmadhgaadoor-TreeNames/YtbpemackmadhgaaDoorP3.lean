/- join and commas: pieces put together. -/
import Derived.Test.YtbpemackmadhgaaDoorP2
import Derived.Test.YtbpemackmadhgaaDoorSj
namespace Go.Proofs.YtbpemackmadhgaaDoor
open Go.RowKit

/-- A string of bytes. -/
abbrev sB (l : List UInt8) : Value := .string ⟨l.toArray⟩
/-- Texts with a comma and a blank between each two. -/
def comB : List (List UInt8) → List UInt8
  | [] => []
  | [x] => x
  | x :: y :: r => x ++ [44, 32] ++ comB (y :: r)
theorem comB_join (l : List (List UInt8)) : Lib.join l [44, 32] = comB l := by
  induction l with
  | nil => rfl
  | cons x r ih =>
    cases r with
    | nil => simp [Lib.join, comB]
    | cons y r => rw [comB, ← ih]; simp [Lib.join]
theorem cat_join (xs : List ByteArray) : Lib.join (xs.map (·.data.toList)) [] = cat xs := by
  induction xs with
  | nil => rfl
  | cons x r ih =>
    cases r with
    | nil => simp [Lib.join, cat]
    | cons y r =>
      have : cat (x :: y :: r) = x.data.toList ++ cat (y :: r) := by simp [cat]
      rw [this, ← ih]; simp [Lib.join]

set_option maxHeartbeats 400000 in
theorem join_any (xs : List ByteArray) (g cap : Nat) (w : World) (hc : ∀ (j : Nat) x, xs[j]? = some x → w.cell? ⟨g, j, none⟩ = some (.string x)) (hg : g < w.heap.size) (hn : xs.length ≤ 1000000) (hcap : xs.length ≤ cap) (hlen : (cat xs).length ≤ 140737488355328) :
    Calls Tryd.prog 56 #[.slice (some ⟨g, 0, none⟩) xs.length cap] w fun e w' => e = .returned (sB (cat xs)) ∧ Below w.heap.size w w' := by
  have HJ : Hid (Calls Tryd.prog 54 #[.slice (some ⟨g, 0, none⟩) xs.length cap, .string ⟨#[]⟩] w fun e w' => e = .returned (sB (cat xs)) ∧ Below w.heap.size w w') := by
    have := Tryd.strings_Join g 0 cap xs ⟨#[]⟩ w (by simpa using hc) hg (by omega) hcap (by rw [cat_join]; exact hlen)
    rw [cat_join] at this
    exact this
  clear hc hlen
  go_enter Tryd.func56, Tryd.ntmps56
  go_wp2_with fail
  refine HJ.out.mono ?_
  rintro e w' ⟨rfl, hb⟩
  go_wp2_with fail
  go_ret
  exact ⟨rfl, hb⟩

/-- .. at pieces that have just been laid. -/
theorem join_new (xs : List ByteArray) (W : World) (hn : xs.length ≤ 1000) (hlen : (cat xs).length ≤ 140737488355328) :
    Calls Tryd.prog 56 #[.slice (some ⟨W.heap.size, 0, none⟩) xs.length xs.length] (W.alloc (.cells (xs.map Value.string).toArray 9)) fun e w' => e = .returned (sB (cat xs)) ∧ Below (W.alloc (.cells (xs.map Value.string).toArray 9)).heap.size (W.alloc (.cells (xs.map Value.string).toArray 9)) w' := by
  refine join_any xs _ _ _ (fun j x hj => ?_) (by simp) (by omega) (Nat.le_refl _) hlen
  rw [World.cell?_alloc_at _ _ _ _ rfl]; simp [hj]

set_option maxHeartbeats 400000 in
theorem commas_any (xs : List ByteArray) (a : Option Addr) (cap : Nat) (w : World) (hc : xs ≠ [] → ∃ g, a = some ⟨g, 0, none⟩ ∧ g < w.heap.size ∧ ∀ (j : Nat) x, xs[j]? = some x → w.cell? ⟨g, j, none⟩ = some (.string x)) (hn : xs.length ≤ 1000000) (hcap : xs.length ≤ cap) (hlen : (comB (xs.map (·.data.toList))).length ≤ 140737488355328) :
    Calls Tryd.prog 37 #[.slice a xs.length cap] w fun e w' => e = .returned (sB (comB (xs.map (·.data.toList)))) ∧ Below w.heap.size w w' := by
  have HJ : Hid (Calls Tryd.prog 54 #[.slice a xs.length cap, .string ⟨#[44, 32]⟩] w fun e w' => e = .returned (sB (comB (xs.map (·.data.toList)))) ∧ Below w.heap.size w w') := by
    by_cases h0 : xs = []
    · subst h0
      exact (Tryd.strings_Join_none a cap ⟨#[44, 32]⟩ w).mono fun e w' ⟨he, hw⟩ => ⟨he, hw ▸ Below.refl _ _⟩
    · obtain ⟨g, rfl, hg, hcc⟩ := hc h0
      have := Tryd.strings_Join g 0 cap xs ⟨#[44, 32]⟩ w (by simpa using hcc) hg (by omega) hcap (by rw [comB_join]; exact hlen)
      rw [comB_join] at this
      exact this
  clear hc hlen
  go_enter Tryd.func37, Tryd.ntmps37
  go_wp2_with fail
  refine HJ.out.mono ?_
  rintro e w' ⟨rfl, hb⟩
  go_wp2_with fail
  go_ret
  exact ⟨rfl, hb⟩
end Go.Proofs.YtbpemackmadhgaaDoor
