/- The reference's signs and one, where neither a letter nor a digit stands: the first sign of the list that stands there, or none. -/
import Derived.Test.YtdlddloggjckmaaDoorQ5
import Derived.Deep.QuietTactic
import Derived.BigQuiet
namespace Go.Proofs.YtdlddloggjckmaaDoor
open Go.RowKit

def signsB : List ByteArray := [⟨#[61, 61]⟩, ⟨#[33, 61]⟩, ⟨#[60, 61]⟩, ⟨#[62, 61]⟩, ⟨#[38, 38]⟩, ⟨#[124, 124]⟩, ⟨#[46, 46]⟩, ⟨#[40]⟩, ⟨#[41]⟩, ⟨#[123]⟩, ⟨#[125]⟩, ⟨#[91]⟩, ⟨#[93]⟩, ⟨#[44]⟩, ⟨#[59]⟩, ⟨#[58]⟩, ⟨#[63]⟩, ⟨#[61]⟩, ⟨#[60]⟩, ⟨#[62]⟩, ⟨#[43]⟩, ⟨#[45]⟩, ⟨#[42]⟩, ⟨#[47]⟩, ⟨#[37]⟩, ⟨#[33]⟩]

set_option maxHeartbeats 400000 in
theorem signs_any (w : World) : Calls Tryd.prog 38 #[] w fun e w' => e = .returned (.slice (some ⟨w.heap.size, 0, none⟩) 26 26) ∧ w' = w.alloc (.cells (strCells signsB) 9) := by
  go_enter Tryd.func38, Tryd.ntmps38
  go_wp2
  go_ret
  exact ⟨rfl, rfl⟩

/-- Does a sign stand at a place? -/
def standsB (s : ByteArray) (k : Nat) (x : ByteArray) : Bool := decide ((x.size : Int) ≤ (s.size : Int) - (k : Int)) && (s.extract k (k + x.size)).toList == x.toList

theorem sign_small : ∀ j (h : j < signsB.length), signsB[j].size ≤ 2 := by
  have : signsB.all (fun x => decide (x.size ≤ 2)) = true := by decide
  intro j h
  have := List.all_eq_true.1 this _ (List.getElem_mem h)
  simpa using this

theorem below_drewN {B : Nat} {a w : World} (h : Below B a w) (n : Nat) : Below B a (w.drewN n) := ⟨h.os, h.tape, h.output, h.size, h.block⟩

set_option maxRecDepth 100000 in
set_option maxHeartbeats 4000000 in
theorem one_sgn (s : ByteArray) (k : Nat) (w : World) (hs : s.size ≤ 281474976710656) (hk : k < s.size) (hl : letB s[k].toNat = false) (hd : digB s[k].toNat = false) :
    Calls Tryd.prog 22 #[.string s, .int .i64 k] w fun e w' =>
      ((∃ (j : Nat) (h : j < signsB.length), (∀ i (h' : i < j), standsB s k (signsB[i]'(by omega)) = false) ∧ standsB s k signsB[j] = true ∧ e = .returned (.tuple #[tokV 4 k signsB[j] 0, .int .i64 0])) ∨
        (∀ i (h : i < signsB.length), standsB s k signsB[i] = false) ∧ e = .returned (.tuple #[tokV 0 0 ⟨#[]⟩ 0, .int .i64 10])) ∧ Below w.heap.size w w' := by
  have h35k : ∀ w, Calls Tryd.prog 35 #[.int .u8 s[k].toNat] w fun e w' => e = .returned (.bool false) ∧ w' = w := fun w => by rw [← hl]; exact rLetter_any _ w (by omega) (u8_le _)
  have h36k : ∀ w, Calls Tryd.prog 36 #[.int .u8 s[k].toNat] w fun e w' => e = .returned (.bool false) ∧ w' = w := fun w => by rw [← hd]; exact rDigit_any _ w (by omega) (u8_le _)
  clear hl hd
  go_enter Tryd.func22, Tryd.ntmps22
  go_wp2_with (first | (go_at_call 35; refine (h35k _).mono ?_; rintro e w' ⟨rfl, rfl⟩) | (go_at_call 36; refine (h36k _).mono ?_; rintro e w' ⟨rfl, rfl⟩) | (go_at_call 38; refine (signs_any _).mono ?_; rintro e w' ⟨rfl, rfl⟩))
  clear h35k h36k
  obtain ⟨W0, hW0⟩ : ∃ W0, (w.alloc (.cells #[.int .i64 0, .int .i64 0, .string ⟨#[]⟩, .int .i64 0] 33)).alloc (.cells (strCells signsB) 9) = W0 := ⟨_, rfl⟩
  have hcS : ∀ j (h : j < signsB.length), W0.cell? ⟨w.heap.size + 1, j, none⟩ = some (.string signsB[j]) := by
    intro j h; rw [← hW0]
    have := new_cells (w.alloc (.cells #[.int .i64 0, .int .i64 0, .string ⟨#[]⟩, .int .i64 0] 33)) signsB j h
    rw [World.size_alloc] at this; exact this
  have hBl : Below w.heap.size w W0 := by rw [← hW0]; exact ((Below.refl _ w).alloc (Nat.le_refl _) _).alloc (by simp) _
  have r0 : W0.cell? ⟨w.heap.size, 0, none⟩ = some (.int .i64 0) ∧ W0.cell? ⟨w.heap.size, 1, none⟩ = some (.int .i64 0) ∧ W0.cell? ⟨w.heap.size, 2, none⟩ = some (.string ⟨#[]⟩) ∧ W0.cell? ⟨w.heap.size, 3, none⟩ = some (.int .i64 0) := by
    rw [← hW0]; simp [go_sem]
  have f0 : ∀ o, W0.frozen? ⟨w.heap.size, o, none⟩ = false := by
    intro o; rw [← hW0]; simp [go_sem]
  rw [hW0]
  clear hW0
  obtain ⟨r0, r1, r2, r3⟩ := r0
  have HS : Hid (∀ j (h : j < signsB.length), W0.cell? ⟨w.heap.size + 1, j, none⟩ = some (.string signsB[j])) := hcS
  clear hcS
  go_loopw [11] (fun t wr => ∃ j nq : Nat, j ≤ 26 ∧ t = .int .i64 j ∧ Hid (∀ i (h : i < signsB.length), i < j → standsB s k signsB[i] = false) ∧ wr = W0.drewN nq) (fun t _ => 26 - (intOf t).toNat)
  case atStart => exact ⟨0, 0, Nat.zero_le _, rfl, fun i _ h => by omega, rfl⟩
  case round =>
    obtain ⟨j, nq, hj, rfl, HI, rfl⟩ := hrel
    by_cases hlt : j < 26
    · have hlt' : j < signsB.length := hlt
      have hcell := HS.out j hlt'
      have hsm := sign_small j hlt'
      obtain ⟨x, hx⟩ : ∃ x, signsB[j] = x := ⟨_, rfl⟩
      rw [hx] at hcell hsm
      have HX : Hid (signsB[j] = x) := hx
      clear hx
      by_cases hz : (x.size : Int) ≤ (s.size : Int) - (k : Int)
      · cases heq : ((s.extract k (k + x.size)).toList == x.toList) with
        | true =>
          have hd1 : decide ((x.size : Int) ≤ (s.size : Int) - (k : Int)) = true := by simpa using hz
          go_wp2
          go_quiet (fail)
          go_wp2
          refine bodyPost_ret (v := .tuple #[tokV 4 k x 0, .int .i64 0]) (by simp [results, Tryd.results22, go_sem, r0, r1, r2, r3]) rfl ⟨.inl ⟨j, hlt', fun i h' => HI.out i (by omega) h', ?_, by rw [HX.out]⟩, below_set4 (below_drewN hBl _) (Nat.le_refl _) _ _ _ _⟩
          rw [HX.out]; unfold standsB; rw [hd1, heq]; rfl
        | false =>
          have hd1 : decide ((x.size : Int) ≤ (s.size : Int) - (k : Int)) = true := by simpa using hz
          have HN : Hid (∀ i (h : i < signsB.length), i < j + 1 → standsB s k signsB[i] = false) := fun i h hi => by
            rcases Nat.lt_or_eq_of_le (Nat.le_of_lt_succ hi) with h' | h'
            · exact HI.out i h h'
            · subst h'; rw [HX.out]; unfold standsB; rw [heq]; simp
          go_wp2
          go_quiet (fail)
          go_wp2
          go_roundw
          case rel => exact ⟨j + 1, _, by omega, by go_num, HN, rfl⟩
          case measure => simp [intOf]; omega
      · have hd1 : decide ((x.size : Int) ≤ (s.size : Int) - (k : Int)) = false := by simpa using hz
        have HN : Hid (∀ i (h : i < signsB.length), i < j + 1 → standsB s k signsB[i] = false) := fun i h hi => by
          rcases Nat.lt_or_eq_of_le (Nat.le_of_lt_succ hi) with h' | h'
          · exact HI.out i h h'
          · subst h'; rw [HX.out]; unfold standsB; rw [hd1]; rfl
        go_wp2
        go_quiet (fail)
        go_wp2
        go_roundw
        case rel => exact ⟨j + 1, _, by omega, by go_num, HN, rfl⟩
        case measure => simp [intOf]; omega
    · go_wp2
      exact bodyPost_ret (v := .tuple #[tokV 0 0 ⟨#[]⟩ 0, .int .i64 10]) (by simp [results, Tryd.results22, go_sem, r0, r1, r2, r3]) rfl ⟨.inr ⟨fun i h => HI.out i h (by have : signsB.length = 26 := rfl; omega), rfl⟩, below_set4 (below_drewN hBl _) (Nat.le_refl _) _ _ _ _⟩
end Go.Proofs.YtdlddloggjckmaaDoor
