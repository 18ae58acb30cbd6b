/- The walks of scan's small functions: letter, digit, letterOrDigit, row: each answers what its plain function says, and the world stays. -/
import Derived.Test.YtdlddloggjckmaaDoorRows
import Derived.Test.YtdlddloggjckmaaDoorM
import Derived.WalkKit
import Derived.WalkSpells
import Derived.WalkLawsBesides
namespace Go.Proofs.YtdlddloggjckmaaDoor
open Go.RowKit

theorem ret_bool {a b : Bool} (h : a = b) : Ending.returned (.bool a) = .returned (.bool b) := by rw [h]
theorem ret_int {k : IntKind} {a b : Int} (h : a = b) : Ending.returned (.int k a) = .returned (.int k b) := by rw [h]

set_option maxHeartbeats 400000 in
theorem letter_any (n : Int) (w : World) (h0 : 0 ≤ n) (h1 : n ≤ 255) :
    Calls Tryd.prog 28 #[.int .u8 n] w fun e w' => e = .returned (.bool (letB n)) ∧ w' = w := by
  by_cases h : 97 ≤ n
  · go_enter Tryd.func28, Tryd.ntmps28
    go_wp2
    go_ret
    exact ⟨ret_bool (by simp [letB, h]), rfl⟩
  · go_enter Tryd.func28, Tryd.ntmps28
    go_wp2
    go_ret
    exact ⟨ret_bool (by simp [letB]; omega), rfl⟩

set_option maxHeartbeats 400000 in
theorem digit_any (n : Int) (w : World) (h0 : 0 ≤ n) (h1 : n ≤ 255) :
    Calls Tryd.prog 40 #[.int .u8 n] w fun e w' => e = .returned (.bool (digB n)) ∧ w' = w := by
  by_cases h : 48 ≤ n
  · go_enter Tryd.func40, Tryd.ntmps40
    go_wp2
    go_ret
    exact ⟨ret_bool (by simp [digB, h]), rfl⟩
  · go_enter Tryd.func40, Tryd.ntmps40
    go_wp2
    go_ret
    exact ⟨ret_bool (by simp [digB]; omega), rfl⟩

set_option maxHeartbeats 400000 in
theorem lod_any (n : Int) (w : World) (h0 : 0 ≤ n) (h1 : n ≤ 255) :
    Calls Tryd.prog 30 #[.int .u8 n] w fun e w' => e = .returned (.bool (lodB n)) ∧ w' = w := by
  by_cases h : letB n = true
  · go_enter Tryd.func30, Tryd.ntmps30
    go_wp2_with (first | (go_at_call 28; refine (letter_any _ _ h0 h1).mono ?_; rintro e w' ⟨rfl, rfl⟩) | (go_at_call 40; refine (digit_any _ _ h0 h1).mono ?_; rintro e w' ⟨rfl, rfl⟩))
    go_ret
    exact ⟨ret_bool (by simp [lodB, h]), rfl⟩
  · have h' : letB n = false := by simpa using h
    go_enter Tryd.func30, Tryd.ntmps30
    go_wp2_with (first | (go_at_call 28; refine (letter_any _ _ h0 h1).mono ?_; rintro e w' ⟨rfl, rfl⟩) | (go_at_call 40; refine (digit_any _ _ h0 h1).mono ?_; rintro e w' ⟨rfl, rfl⟩))
    go_ret
    exact ⟨ret_bool (by simp [lodB, h']), rfl⟩

theorem u8_le (c : UInt8) : (c.toNat : Int) ≤ 255 := by have := c.toNat_lt; omega

set_option maxHeartbeats 400000 in
theorem row_lod (s : ByteArray) (w : World) (hs : s.size ≤ maxLen) :
    Calls Tryd.prog 29 #[.string s, .func (.func 30) #[] #[]] w fun e w' => e = .returned (.int .i64 (rowLen isLod s.data.toList : Nat)) ∧ w' = w := by
  unfold maxLen at hs
  have hle : rowLen isLod s.data.toList ≤ s.size := rowLen_le isLod s.data.toList
  go_enter Tryd.func29, Tryd.ntmps29
  go_wp2
  go_loop [5] (fun i => ∃ k : Nat, k ≤ rowLen isLod s.data.toList ∧ i = .int .i64 k) (fun i => s.size - (intOf i).toNat)
  case atStart => exact ⟨0, Nat.zero_le _, rfl⟩
  case round =>
    obtain ⟨k, hk, rfl⟩ := hrel
    by_cases hlt : k < s.size
    · by_cases hp : lodB s[k].toNat = true
      · have hnext := rowLen_hit isLod s.data.toList k hk hlt hp
        go_wp2_with (go_at_call 30; refine (lod_any _ _ (by omega) (u8_le _)).mono ?_; rintro e w' ⟨rfl, rfl⟩)
        go_round
        case rel => exact ⟨k + 1, hnext, by go_num⟩
        case measure => simp [intOf]; omega
      · have hp' : lodB s[k].toNat = false := by simpa using hp
        have hend := rowLen_miss isLod s.data.toList k hk hlt hp'
        have HE : Hid (rowLen isLod s.data.toList = k) := hend
        clear hend hp
        go_wp2_with (go_at_call 30; refine (lod_any _ _ (by omega) (u8_le _)).mono ?_; rintro e w' ⟨rfl, rfl⟩)
        go_ret
        exact ⟨ret_int (by rw [HE.out]), rfl⟩
    · have HE : Hid (rowLen isLod s.data.toList = k) := (by omega : rowLen isLod s.data.toList = k)
      go_wp2_with (go_at_call 30; refine (lod_any _ _ (by omega) (u8_le _)).mono ?_; rintro e w' ⟨rfl, rfl⟩)
      go_ret
      exact ⟨ret_int (by rw [HE.out]), rfl⟩

set_option maxHeartbeats 400000 in
theorem row_dig (s : ByteArray) (w : World) (hs : s.size ≤ maxLen) :
    Calls Tryd.prog 29 #[.string s, .func (.func 40) #[] #[]] w fun e w' => e = .returned (.int .i64 (rowLen isDig s.data.toList : Nat)) ∧ w' = w := by
  unfold maxLen at hs
  have hle : rowLen isDig s.data.toList ≤ s.size := rowLen_le isDig s.data.toList
  go_enter Tryd.func29, Tryd.ntmps29
  go_wp2
  go_loop [5] (fun i => ∃ k : Nat, k ≤ rowLen isDig s.data.toList ∧ i = .int .i64 k) (fun i => s.size - (intOf i).toNat)
  case atStart => exact ⟨0, Nat.zero_le _, rfl⟩
  case round =>
    obtain ⟨k, hk, rfl⟩ := hrel
    by_cases hlt : k < s.size
    · by_cases hp : digB s[k].toNat = true
      · have hnext := rowLen_hit isDig s.data.toList k hk hlt hp
        go_wp2_with (go_at_call 40; refine (digit_any _ _ (by omega) (u8_le _)).mono ?_; rintro e w' ⟨rfl, rfl⟩)
        go_round
        case rel => exact ⟨k + 1, hnext, by go_num⟩
        case measure => simp [intOf]; omega
      · have hp' : digB s[k].toNat = false := by simpa using hp
        have hend := rowLen_miss isDig s.data.toList k hk hlt hp'
        have HE : Hid (rowLen isDig s.data.toList = k) := hend
        clear hend hp
        go_wp2_with (go_at_call 40; refine (digit_any _ _ (by omega) (u8_le _)).mono ?_; rintro e w' ⟨rfl, rfl⟩)
        go_ret
        exact ⟨ret_int (by rw [HE.out]), rfl⟩
    · have HE : Hid (rowLen isDig s.data.toList = k) := (by omega : rowLen isDig s.data.toList = k)
      go_wp2_with (go_at_call 40; refine (digit_any _ _ (by omega) (u8_le _)).mono ?_; rintro e w' ⟨rfl, rfl⟩)
      go_ret
      exact ⟨ret_int (by rw [HE.out]), rfl⟩

end Go.Proofs.YtdlddloggjckmaaDoor
