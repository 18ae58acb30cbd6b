/- The reference's value: the number of a row of digits, if it may be; the world stays. -/
import Derived.Test.YtdlddloggjckmaaDoorE
namespace Go.Proofs.YtdlddloggjckmaaDoor
open Go.RowKit

theorem natA_take (l : List UInt8) (k : Nat) (h : k < l.length) : natA 0 (l.take (k + 1)) = natA 0 (l.take k) * 10 + (l[k].toNat - 48) := by
  rw [List.take_succ_eq_append_getElem h, natA_append, natA_cons, natA_nil]
theorem natA_take_le (l : List UInt8) (k : Nat) : natA 0 (l.take k) ≤ natA 0 l := by
  have : natA 0 l = natA (natA 0 (l.take k)) (l.drop k) := by rw [← natA_append, List.take_append_drop]
  rw [this]; exact natA_ge _ _

set_option maxHeartbeats 1000000 in
theorem value_zero (s : ByteArray) (w : World) (h0 : 0 < s.size) (hl : 1 < (s.size : Int)) (hz : (s[0].toNat : Int) = 48) :
    Calls Tryd.prog 37 #[.string s] w fun e w' => e = .returned (.tuple #[.int .i64 0, .bool false]) ∧ w' = w := by
  go_enter Tryd.func37, Tryd.ntmps37
  go_wp2
  go_ret2
  exact ⟨rfl, rfl⟩

/-- What value answers. -/
def valN (l : List UInt8) : Int := if natA 0 l ≤ maxI then (natA 0 l : Nat) else 0
def valOk (l : List UInt8) : Bool := decide (natA 0 l ≤ maxI)
theorem valN_ok {l : List UInt8} (h : natA 0 l ≤ 9223372036854775807) : valN l = (natA 0 l : Nat) ∧ valOk l = true := by
  unfold valN valOk maxI; exact ⟨if_pos h, by simp only [decide_eq_true_eq]; exact h⟩
theorem valN_no {l : List UInt8} (h : ¬ natA 0 l ≤ 9223372036854775807) : valN l = 0 ∧ valOk l = false := by
  unfold valN valOk maxI; exact ⟨if_neg h, by simp only [decide_eq_false_iff_not]; exact h⟩

theorem tup2 {a b : Int} {c d : Bool} (h1 : a = b) (h2 : c = d) : Ending.returned (.tuple #[.int .i64 a, .bool c]) = .returned (.tuple #[.int .i64 b, .bool d]) := by rw [h1, h2]
theorem int_eq {k : IntKind} {a b : Int} (h : a = b) : Value.int k a = .int k b := by rw [h]

set_option maxHeartbeats 2000000 in
theorem value_loop (s : ByteArray) (w : World) (hs : s.size ≤ maxLen) (hd : ∀ k (h : k < s.size), 48 ≤ s[k].toNat ∧ s[k].toNat ≤ 57)
    (hn : (¬ 1 < (s.size : Int)) ∨ (1 < (s.size : Int) ∧ ∃ h : 0 < s.size, ((s[0].toNat : Int) == 48) = false)) :
    Calls Tryd.prog 37 #[.string s] w fun e w' => e = .returned (.tuple #[.int .i64 (valN s.data.toList), .bool (valOk s.data.toList)]) ∧ w' = w := by
  unfold maxLen at hs
  have HD : Hid (∀ k (h : k < s.size), 48 ≤ s[k].toNat ∧ s[k].toNat ≤ 57) := hd
  clear hd
  rcases hn with hn | ⟨hn, h0, hc0⟩
  all_goals
    go_enter Tryd.func37, Tryd.ntmps37
    go_wp2
    go_loop [4, 5] (fun t i => ∃ k : Nat, k ≤ s.size ∧ i = .int .i64 k ∧ natA 0 (s.data.toList.take k) ≤ 9223372036854775807 ∧ t = .int .i64 (natA 0 (s.data.toList.take k) : Nat)) (fun _ i => s.size - (intOf i).toNat)
    case atStart => exact ⟨0, Nat.zero_le _, rfl, Nat.zero_le _, rfl⟩
    case round =>
      obtain ⟨k, hk, rfl, hm, rfl⟩ := hrel
      by_cases hlt : k < s.size
      · obtain ⟨d1, d2⟩ := HD.out k hlt
        have hnx : natA 0 (s.data.toList.take (k + 1)) = natA 0 (s.data.toList.take k) * 10 + (s[k].toNat - 48) := natA_take s.data.toList k (by rw [ba_len]; exact hlt)
        have hle := natA_take_le s.data.toList (k + 1)
        by_cases hov : (9223372036854775807 - ((s[k].toNat : Int) - 48)) / 10 < (natA 0 (s.data.toList.take k) : Nat)
        · obtain ⟨v1, v2⟩ := valN_no (l := s.data.toList) (by omega)
          have V1 : Hid (valN s.data.toList = 0) := v1
          have V2 : Hid (valOk s.data.toList = false) := v2
          clear v1 v2 hnx hle
          go_wp2
          go_ret2
          exact ⟨tup2 V1.out.symm V2.out.symm, rfl⟩
        · have hb : natA 0 (s.data.toList.take k) * 10 + (s[k].toNat - 48) ≤ 9223372036854775807 := by omega
          have HN : Hid (natA 0 (s.data.toList.take (k + 1)) = natA 0 (s.data.toList.take k) * 10 + (s[k].toNat - 48)) := hnx
          clear hnx hle
          go_wp2
          go_round
          case rel => exact ⟨k + 1, by omega, by go_num, by rw [HN.out]; exact hb, int_eq (by rw [HN.out]; omega)⟩
          case measure => simp [intOf]; omega
      · have hks : s.data.toList.take k = s.data.toList := List.take_of_length_le (by rw [ba_len]; omega)
        rw [hks] at hm
        obtain ⟨v1, v2⟩ := valN_ok hm
        have V1 : Hid (valN s.data.toList = (natA 0 s.data.toList : Nat)) := v1
        have V2 : Hid (valOk s.data.toList = true) := v2
        have HK : Hid (s.data.toList.take k = s.data.toList) := hks
        clear v1 v2 hks
        go_wp2
        go_ret2
        exact ⟨tup2 (by rw [HK.out]; exact V1.out.symm) V2.out.symm, rfl⟩

end Go.Proofs.YtdlddloggjckmaaDoor
