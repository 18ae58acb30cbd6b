/- Thresholds: slices.Contains at them, rise; checkWhole. -/
import Derived.Test.YtbpemackmadhgaaDoorC7
namespace Go.Proofs.YtbpemackmadhgaaDoor
open Go.RowKit Go.Sort

def hasZ (x : Int) (l : List Int) : Bool := l.any fun z => x == z
theorem hasZ_drop {x : Int} {l : List Int} {j : Nat} (h : j < l.length) : hasZ x (l.drop j) = (x == l[j] || hasZ x (l.drop (j + 1))) := by
  rw [List.drop_eq_getElem_cons h]; rfl
def Thr (w : World) (a : Option Addr) (c : Nat) (l : List Int) : Prop := l.length ≤ c ∧ c * 8 ≤ 140737488351232 ∧ RowIn w a 1 (l.map fun z => [.int .i64 z])

set_option maxRecDepth 100000 in
set_option maxHeartbeats 4000000 in
theorem index_any (x : Int) (l : List Int) (a : Option Addr) (c : Nat) (w : World) (hin : Thr w a c l) : Calls Tryd.prog 58 #[.slice a l.length c, .int .i64 x] w fun e w' => ∃ r, e = .returned (.int .i64 r) ∧ decide (0 ≤ r) = hasZ x l ∧ w' = w := by
  obtain ⟨hl, hc, hrow⟩ := hin
  have HR : Hid (RowIn w a 1 (l.map fun z => [.int .i64 z])) := hrow
  clear hrow
  go_enter Tryd.func58, Tryd.ntmps58
  go_wp2_with fail
  go_loopw [8] (fun t8 wr => ∃ (j : Nat), j ≤ l.length ∧ t8 = .int .i64 j ∧ hasZ x (l.drop j) = hasZ x l ∧ wr = w) (fun t8 _ => l.length - (intOf t8).toNat)
  case atStart => exact ⟨0, Nat.zero_le _, rfl, rfl, rfl⟩
  case round =>
    obtain ⟨j, hj, rfl, hcnt, rfl⟩ := hrel
    have HC : Hid (hasZ x (l.drop j) = hasZ x l) := hcnt
    clear hcnt
    by_cases hlt : j < l.length
    · obtain ⟨b, o, rfl, c0⟩ := rowW_at HR.out hlt
      have hli : (j : Int) < (l.length : Int) := by omega
      have HD : Hid (hasZ x (l.drop j) = (x == l[j] || hasZ x (l.drop (j + 1)))) := hasZ_drop hlt
      generalize l[j] = z at *
      cases e1 : (x == z)
      · go_wp2_with fail
        go_roundw
        case rel => exact ⟨j + 1, by omega, by go_num, by rw [← HC.out, HD.out, e1]; rfl, by first | rfl | trivial⟩
        case measure => simp [intOf]; omega
      · go_wp2_with fail
        go_ret
        exact ⟨_, rfl, by rw [← HC.out, HD.out, e1]; simp, rfl⟩
    · go_wp2_with fail
      go_ret
      exact ⟨_, rfl, by rw [← HC.out, List.drop_eq_nil_of_le (by omega)]; rfl, rfl⟩
set_option maxRecDepth 100000 in
set_option maxHeartbeats 4000000 in
theorem contains_any (x : Int) (l : List Int) (a : Option Addr) (c : Nat) (w : World) (hin : Thr w a c l) : Calls Tryd.prog 43 #[.slice a l.length c, .int .i64 x] w fun e w' => e = .returned (.bool (hasZ x l)) ∧ w' = w := by
  have HI : Hid (Calls Tryd.prog 58 #[.slice a l.length c, .int .i64 x] w fun e w' => ∃ r, e = .returned (.int .i64 r) ∧ decide (0 ≤ r) = hasZ x l ∧ w' = w) := index_any x l a c w hin
  clear hin
  go_enter Tryd.func43, Tryd.ntmps43
  go_wp2_with fail
  refine HI.out.mono ?_
  rintro e w' ⟨r, rfl, hr, rfl⟩
  have HR : Hid (decide (0 ≤ r) = hasZ x l) := hr
  clear hr
  go_wp2_with fail
  go_ret
  exact ⟨ret_bool (by rw [← HR.out]), rfl⟩

/-- Do numbers rise? -/
def riseB : List Int → Bool
  | a :: b :: r => if b ≤ a then false else riseB (b :: r)
  | _ => true
theorem riseB_drop {l : List Int} {j : Nat} (h : j + 1 < l.length) : riseB (l.drop j) = if l[j + 1] ≤ l[j]'(by omega) then false else riseB (l.drop (j + 1)) := by
  rw [List.drop_eq_getElem_cons (by omega), List.drop_eq_getElem_cons h, riseB]
set_option maxRecDepth 100000 in
set_option maxHeartbeats 4000000 in
theorem rise_any (l : List Int) (a : Option Addr) (c : Nat) (w : World) (hin : Thr w a c l) : Calls Tryd.prog 44 #[.slice a l.length c] w fun e w' => e = .returned (.bool (riseB l)) ∧ Below w.heap.size w w' := by
  obtain ⟨hl, hc, hrow⟩ := hin
  have HR : Hid (RowIn w a 1 (l.map fun z => [.int .i64 z])) := hrow
  clear hrow
  go_enter Tryd.func44, Tryd.ntmps44
  go_wp2_with fail
  go_loopw [3] (fun t3 wr => ∃ (j nq : Nat), j ≤ l.length ∧ t3 = .int .i64 (j + 1) ∧ riseB (l.drop j) = riseB l ∧ wr = w.drewN nq) (fun t3 _ => l.length + 1 - (intOf t3).toNat)
  case atStart => exact ⟨0, 0, Nat.zero_le _, rfl, rfl, rfl⟩
  case round =>
    obtain ⟨j, nq, hj, rfl, hcnt, rfl⟩ := hrel
    have HC : Hid (riseB (l.drop j) = riseB l) := hcnt
    clear hcnt
    by_cases hlt : j + 1 < l.length
    · obtain ⟨b, o, rfl, c0⟩ := rowW_at HR.out hlt
      obtain ⟨b', o', e, c1⟩ := rowW_at HR.out (show j < l.length by omega)
      cases e
      have hli : (j : Int) + 1 < (l.length : Int) := by omega
      have HD : Hid (riseB (l.drop j) = if l[j + 1] ≤ l[j]'(by omega) then false else riseB (l.drop (j + 1))) := riseB_drop hlt
      generalize l[j + 1] = z1 at *
      generalize l[j] = z0 at *
      go_wp2_with fail
      go_quiet (fail)
      by_cases e1 : z1 ≤ z0
      · go_wp2_with fail
        go_ret
        exact ⟨ret_bool (by rw [← HC.out, HD.out, if_pos e1]), ((Below.refl _ w).drewN _).drewN _⟩
      · go_wp2_with fail
        go_roundw
        case rel => exact ⟨j + 1, _, by omega, by go_num, by rw [← HC.out, HD.out, if_neg (by omega)], rfl⟩
        case measure => simp [intOf]; omega
    · go_wp2_with fail
      go_ret
      exact ⟨ret_bool (by
        rw [← HC.out]
        match h : l.drop j with
        | [] => rfl
        | [_] => rfl
        | _ :: _ :: _ => have := congrArg List.length h; simp at this; omega), (Below.refl _ w).drewN _⟩
end Go.Proofs.YtbpemackmadhgaaDoor
