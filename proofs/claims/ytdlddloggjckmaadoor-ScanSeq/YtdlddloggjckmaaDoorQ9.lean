/- The reference's Same, at two rows of the same tokens: true. -/
import Derived.Test.YtdlddloggjckmaaDoorG
import Derived.Deep.QuietTactic
import Derived.BigQuiet
namespace Go.Proofs.YtdlddloggjckmaaDoor
open Go.RowKit

/-- A slice that holds just these tokens. -/
def RowAt (W : World) (v : Value) (xs : List It) : Prop :=
  ∃ bo cap, v = .slice bo xs.length cap ∧ xs.length ≤ cap ∧ (0 < xs.length → ∃ g, bo = some ⟨g, 0, none⟩ ∧ g < W.heap.size ∧ ∀ j u, (rowCells xs)[j]? = some u → W.cell? ⟨g, j, none⟩ = some u)

theorem rowCells_at (xs : List It) (k : Nat) (h : k < xs.length) : (rowCells xs)[k * 4]? = some (.int .i64 xs[k].kind) ∧ (rowCells xs)[k * 4 + 1]? = some (.int .i64 xs[k].at_) ∧ (rowCells xs)[k * 4 + 2]? = some (.string xs[k].text) ∧ (rowCells xs)[k * 4 + 3]? = some (.int .i64 xs[k].n) := by
  induction xs generalizing k with
  | nil => simp at h
  | cons x xs ih =>
    cases k with
    | zero => exact ⟨rfl, rfl, rfl, rfl⟩
    | succ k =>
      have := ih k (by simpa using h)
      have e : rowCells (x :: xs) = tokCells x ++ rowCells xs := by simp [rowCells]
      rw [e]
      have hl : (tokCells x).length = 4 := rfl
      rw [List.getElem?_append_right (by omega), List.getElem?_append_right (by omega), List.getElem?_append_right (by omega), List.getElem?_append_right (by omega), hl]
      rw [show (k + 1) * 4 - 4 = k * 4 from by omega, show (k + 1) * 4 + 1 - 4 = k * 4 + 1 from by omega, show (k + 1) * 4 + 2 - 4 = k * 4 + 2 from by omega, show (k + 1) * 4 + 3 - 4 = k * 4 + 3 from by omega]
      simpa using this

set_option maxRecDepth 100000 in
set_option maxHeartbeats 2000000 in
theorem same_any (xs : List It) (va vb : Value) (w : World) (hx : xs.length ≤ 1000000) (ha : RowAt w va xs) (hb : RowAt w vb xs) :
    Calls Tryd.prog 12 #[va, vb] w fun e w' => e = .returned (.bool true) ∧ Below w.heap.size w w' := by
  obtain ⟨ao, ca, rfl, hca, hA⟩ := ha
  obtain ⟨bo, cb, rfl, hcb, hB⟩ := hb
  have HA : Hid (0 < xs.length → ∃ g, ao = some ⟨g, 0, none⟩ ∧ g < w.heap.size ∧ ∀ j u, (rowCells xs)[j]? = some u → w.cell? ⟨g, j, none⟩ = some u) := hA
  have HB : Hid (0 < xs.length → ∃ g, bo = some ⟨g, 0, none⟩ ∧ g < w.heap.size ∧ ∀ j u, (rowCells xs)[j]? = some u → w.cell? ⟨g, j, none⟩ = some u) := hB
  clear hA hB
  go_enter Tryd.func12, Tryd.ntmps12
  go_wp2
  go_loopw [5] (fun t wr => ∃ k nq : Nat, k ≤ xs.length ∧ t = .int .i64 k ∧ wr = w.drewN nq) (fun t _ => xs.length - (intOf t).toNat)
  case atStart => exact ⟨0, 0, Nat.zero_le _, rfl, rfl⟩
  case round =>
    obtain ⟨k, nq, hk, rfl, rfl⟩ := hrel
    by_cases hlt : k < xs.length
    · obtain ⟨ga, rfl, _, hca'⟩ := HA.out (by omega)
      obtain ⟨gb, rfl, _, hcb'⟩ := HB.out (by omega)
      obtain ⟨c0, c1, c2, c3⟩ := rowCells_at xs k hlt
      have a0 := hca' _ _ c0
      have a1 := hca' _ _ c1
      have a2 := hca' _ _ c2
      have a3 := hca' _ _ c3
      have b0 := hcb' _ _ c0
      have b1 := hcb' _ _ c1
      have b2 := hcb' _ _ c2
      have b3 := hcb' _ _ c3
      clear hca' hcb' c0 c1 c2 c3 HA HB
      have hli : (k : Int) < (xs.length : Int) := by omega
      go_wp2
      go_quiet (fail)
      go_wp2
      go_roundw
      case rel => exact ⟨k + 1, _, by omega, by go_num, rfl⟩
      case measure => simp [intOf]; omega
    · go_wp2
      go_ret
      exact ⟨rfl, ⟨rfl, rfl, rfl, Nat.le_refl _, fun _ _ => rfl⟩⟩
end Go.Proofs.YtdlddloggjckmaaDoor
