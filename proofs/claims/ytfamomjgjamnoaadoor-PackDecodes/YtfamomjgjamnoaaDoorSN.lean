/- scan.letter, digit, letterOrDigit, row, Word and Name, as package tree calls them: what each answers; the world stays. -/
import Derived.Test.YtfamomjgjamnoaaDoorJa
import Derived.Test.YtfamomjgjamnoaaDoorCa
import Derived.Lib.Walk
namespace Go.Proofs.YtfamomjgjamnoaaDoor
open Go.RowKit

set_option maxHeartbeats 400000 in
theorem letter_any (n : Int) (w : World) (h0 : 0 ≤ n) (h1 : n ≤ 255) :
    Calls Tryd.prog 68 #[.int .u8 n] w fun e w' => e = .returned (.bool (letB n)) ∧ w' = w := by
  by_cases h : 97 ≤ n
  · go_enter Tryd.func68, Tryd.ntmps68
    go_wp2
    go_ret
    exact ⟨ret_bool (by simp [letB, h]), rfl⟩
  · go_enter Tryd.func68, Tryd.ntmps68
    go_wp2
    go_ret
    exact ⟨ret_bool (by simp [letB]; omega), rfl⟩

set_option maxHeartbeats 400000 in
theorem digit_any (n : Int) (w : World) (h0 : 0 ≤ n) (h1 : n ≤ 255) :
    Calls Tryd.prog 71 #[.int .u8 n] w fun e w' => e = .returned (.bool (digB n)) ∧ w' = w := by
  by_cases h : 48 ≤ n
  · go_enter Tryd.func71, Tryd.ntmps71
    go_wp2
    go_ret
    exact ⟨ret_bool (by simp [digB, h]), rfl⟩
  · go_enter Tryd.func71, Tryd.ntmps71
    go_wp2
    go_ret
    exact ⟨ret_bool (by simp [digB]; omega), rfl⟩

set_option maxHeartbeats 400000 in
theorem lod_any (n : Int) (w : World) (h0 : 0 ≤ n) (h1 : n ≤ 255) :
    Calls Tryd.prog 70 #[.int .u8 n] w fun e w' => e = .returned (.bool (lodB n)) ∧ w' = w := by
  by_cases h : letB n = true
  · go_enter Tryd.func70, Tryd.ntmps70
    go_wp2_with (first | (go_at_call 68; refine (letter_any _ _ h0 h1).mono ?_; rintro e w' ⟨rfl, rfl⟩) | (go_at_call 71; refine (digit_any _ _ h0 h1).mono ?_; rintro e w' ⟨rfl, rfl⟩))
    go_ret
    exact ⟨ret_bool (by simp [lodB, h]), rfl⟩
  · have h' : letB n = false := by simpa using h
    go_enter Tryd.func70, Tryd.ntmps70
    go_wp2_with (first | (go_at_call 68; refine (letter_any _ _ h0 h1).mono ?_; rintro e w' ⟨rfl, rfl⟩) | (go_at_call 71; refine (digit_any _ _ h0 h1).mono ?_; rintro e w' ⟨rfl, rfl⟩))
    go_ret
    exact ⟨ret_bool (by simp [lodB, h']), rfl⟩

theorem u8_le (c : UInt8) : (c.toNat : Int) ≤ 255 := by have := c.toNat_lt; omega

set_option maxHeartbeats 400000 in
theorem row_lod (s : ByteArray) (w : World) (hs : s.size ≤ maxLen) :
    Calls Tryd.prog 69 #[.string s, .func (.func 70) #[] #[]] w fun e w' => e = .returned (.int .i64 (rowLen isLod s.data.toList : Nat)) ∧ w' = w := by
  unfold maxLen at hs
  have hle : rowLen isLod s.data.toList ≤ s.size := rowLen_le isLod s.data.toList
  go_enter Tryd.func69, Tryd.ntmps69
  go_wp2
  go_loop [5] (fun i => ∃ k : Nat, k ≤ rowLen isLod s.data.toList ∧ i = .int .i64 k) (fun i => s.size - (intOf i).toNat)
  case atStart => exact ⟨0, Nat.zero_le _, rfl⟩
  case round =>
    obtain ⟨k, hk, rfl⟩ := hrel
    by_cases hlt : k < s.size
    · by_cases hp : lodB s[k].toNat = true
      · have hnext := rowLen_hit isLod s.data.toList k hk hlt hp
        go_wp2_with (go_at_call 70; refine (lod_any _ _ (by omega) (u8_le _)).mono ?_; rintro e w' ⟨rfl, rfl⟩)
        go_round
        case rel => exact ⟨k + 1, hnext, by go_num⟩
        case measure => simp [intOf]; omega
      · have hp' : lodB s[k].toNat = false := by simpa using hp
        have hend := rowLen_miss isLod s.data.toList k hk hlt hp'
        have HE : Hid (rowLen isLod s.data.toList = k) := hend
        clear hend hp
        go_wp2_with (go_at_call 70; refine (lod_any _ _ (by omega) (u8_le _)).mono ?_; rintro e w' ⟨rfl, rfl⟩)
        go_ret
        exact ⟨ret_int (by rw [HE.out]), rfl⟩
    · have HE : Hid (rowLen isLod s.data.toList = k) := (by omega : rowLen isLod s.data.toList = k)
      go_wp2_with (go_at_call 70; refine (lod_any _ _ (by omega) (u8_le _)).mono ?_; rintro e w' ⟨rfl, rfl⟩)
      go_ret
      exact ⟨ret_int (by rw [HE.out]), rfl⟩
theorem ba_list (s : ByteArray) : s.toList = s.data.toList := ByteArray.toList_eq s
theorem ba_take (s : ByteArray) (n : Nat) : (s.extract 0 n).toList = s.data.toList.take n := by
  rw [ba_list]; simp

set_option maxHeartbeats 2000000 in
theorem word_any (s : ByteArray) (w : World) :
    Calls Tryd.prog 63 #[.string s] w fun e w' => e = .returned (.bool (wordB s.data.toList)) ∧ w' = w := by
  rw [← ba_list]
  go_enter Tryd.func63, Tryd.ntmps63
  go_wp2
  all_goals first
    | (exfalso; have hx : ∀ b : Bool, b = true → b = false → False := (fun b h1 h2 => by rw [h1] at h2; cases h2); exact hx _ (by assumption) (by assumption))
    | (go_ret; exact ⟨ret_bool (by simp only [wordB, *, Bool.or_true, Bool.true_or, Bool.or_false]), rfl⟩)


/-- May a text be a name? -/
def nameB (l : List UInt8) : Bool := match l with | [] => false | c :: _ => decide (l.length ≤ 16) && !wordB l && isLet c && decide (rowLen isLod l = l.length)

theorem isEmpty_of (s : ByteArray) (h : 0 < s.size) : s.toList.isEmpty = false := by
  rw [ba_list]
  cases hx : s.data.toList with
  | nil => have := ba_len s; rw [hx] at this; simp at this; omega
  | cons _ _ => rfl

set_option maxHeartbeats 1000000 in
theorem name_empty (w : World) : Calls Tryd.prog 62 #[.string ⟨#[]⟩] w fun e w' => e = .returned (.bool false) ∧ w' = w := by
  go_enter Tryd.func62, Tryd.ntmps62
  go_wp2
  go_ret
  exact ⟨rfl, rfl⟩

set_option maxHeartbeats 1000000 in
theorem name_long (s : ByteArray) (w : World) (he : s.toList.isEmpty = false) (h : 16 < (s.size : Int)) : Calls Tryd.prog 62 #[.string s] w fun e w' => e = .returned (.bool false) ∧ w' = w := by
  go_enter Tryd.func62, Tryd.ntmps62
  go_wp2
  go_ret
  exact ⟨rfl, rfl⟩

set_option maxHeartbeats 1000000 in
theorem name_word (s : ByteArray) (w : World) (he : s.toList.isEmpty = false) (h : ¬ 16 < (s.size : Int)) (hw : wordB s.data.toList = true) : Calls Tryd.prog 62 #[.string s] w fun e w' => e = .returned (.bool false) ∧ w' = w := by
  have h16 : ∀ w, Calls Tryd.prog 63 #[.string s] w fun e w' => e = .returned (.bool true) ∧ w' = w := by intro w; rw [← hw]; exact word_any _ w
  clear hw
  go_enter Tryd.func62, Tryd.ntmps62
  go_wp2_with (go_at_call 63; refine (h16 _).mono ?_; rintro e w' ⟨rfl, rfl⟩)
  go_ret
  exact ⟨rfl, rfl⟩

set_option maxHeartbeats 1000000 in
theorem name_digit (s : ByteArray) (w : World) (h0 : 0 < s.size) (he : s.toList.isEmpty = false) (h : ¬ 16 < (s.size : Int)) (hw : wordB s.data.toList = false) (hl : letB s[0].toNat = false) : Calls Tryd.prog 62 #[.string s] w fun e w' => e = .returned (.bool false) ∧ w' = w := by
  have h16 : ∀ w, Calls Tryd.prog 63 #[.string s] w fun e w' => e = .returned (.bool false) ∧ w' = w := by intro w; rw [← hw]; exact word_any _ w
  have h28 : ∀ w, Calls Tryd.prog 68 #[.int .u8 s[0].toNat] w fun e w' => e = .returned (.bool false) ∧ w' = w := fun w => by rw [← hl]; exact letter_any _ w (by omega) (u8_le _)
  clear hw hl
  go_enter Tryd.func62, Tryd.ntmps62
  go_wp2_with (first | (go_at_call 63; refine (h16 _).mono ?_; rintro e w' ⟨rfl, rfl⟩) | (go_at_call 68; refine (h28 _).mono ?_; rintro e w' ⟨rfl, rfl⟩))
  go_ret
  exact ⟨rfl, rfl⟩

set_option maxHeartbeats 1000000 in
theorem name_rest (s : ByteArray) (b : Bool) (w : World) (h0 : 0 < s.size) (he : s.toList.isEmpty = false) (h : ¬ 16 < (s.size : Int)) (hw : wordB s.data.toList = false) (hl : letB s[0].toNat = true)
    (hb : (((rowLen isLod s.data.toList : Nat) : Int) == (s.size : Int)) = b) : Calls Tryd.prog 62 #[.string s] w fun e w' => e = .returned (.bool b) ∧ w' = w := by
  have h16 : ∀ w, Calls Tryd.prog 63 #[.string s] w fun e w' => e = .returned (.bool false) ∧ w' = w := by intro w; rw [← hw]; exact word_any _ w
  have h28 : ∀ w, Calls Tryd.prog 68 #[.int .u8 s[0].toNat] w fun e w' => e = .returned (.bool true) ∧ w' = w := fun w => by rw [← hl]; exact letter_any _ w (by omega) (u8_le _)
  have h29 : ∀ w, Calls Tryd.prog 69 #[.string s, .func (.func 70) #[] #[]] w fun e w' => e = .returned (.int .i64 (rowLen isLod s.data.toList : Nat)) ∧ w' = w := fun w => row_lod s w (by unfold maxLen; omega)
  clear hw hl
  go_enter Tryd.func62, Tryd.ntmps62
  go_wp2_with (first | (go_at_call 63; refine (h16 _).mono ?_; rintro e w' ⟨rfl, rfl⟩) | (go_at_call 68; refine (h28 _).mono ?_; rintro e w' ⟨rfl, rfl⟩) | (go_at_call 69; refine (h29 _).mono ?_; rintro e w' ⟨rfl, rfl⟩))
  go_ret
  exact ⟨ret_bool (by simp), rfl⟩

theorem nameB_cons {l : List UInt8} (h : 0 < l.length) : nameB l = (decide (l.length ≤ 16) && !wordB l && isLet l[0] && decide (rowLen isLod l = l.length)) := by
  cases l with
  | nil => simp at h
  | cons c r => rfl

theorem name_any (s : ByteArray) (w : World) : Calls Tryd.prog 62 #[.string s] w fun e w' => e = .returned (.bool (nameB s.data.toList)) ∧ w' = w := by
  have hlen := ba_len s
  by_cases h0 : 0 < s.size
  · have he := isEmpty_of s h0
    have hl0 : 0 < s.data.toList.length := by omega
    rw [nameB_cons hl0]
    by_cases h16 : s.size ≤ 16
    · have d1 : decide (s.data.toList.length ≤ 16) = true := by simp only [decide_eq_true_eq]; omega
      rw [d1]
      cases hw : wordB s.data.toList with
      | true => exact name_word s w he (by omega) hw
      | false =>
        cases hl : letB s[0].toNat with
        | false => rw [show isLet s.data.toList[0] = false from hl]; simp only [Bool.and_false, Bool.false_and]; exact name_digit s w h0 he (by omega) hw hl
        | true =>
          rw [show isLet s.data.toList[0] = true from hl]; simp only [Bool.not_false, Bool.and_true, Bool.true_and]
          refine name_rest s _ w h0 he (by omega) hw hl ?_
          rw [hlen, Bool.eq_iff_iff]; simp only [beq_iff_eq, decide_eq_true_eq]; omega
    · have d1 : decide (s.data.toList.length ≤ 16) = false := by simp only [decide_eq_false_iff_not]; omega
      rw [d1]; simp only [Bool.false_and]
      exact name_long s w he (by omega)
  · have : s = ⟨#[]⟩ := by
      apply ByteArray.ext; apply Array.eq_empty_of_size_eq_zero; show s.size = 0; omega
    rw [this]; exact name_empty w

end Go.Proofs.YtfamomjgjamnoaaDoor
