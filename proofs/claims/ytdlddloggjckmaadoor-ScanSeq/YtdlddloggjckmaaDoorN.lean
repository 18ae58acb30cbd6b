/- scan.Name: what it answers; the world stays. -/
import Derived.Test.YtdlddloggjckmaaDoorE
namespace Go.Proofs.YtdlddloggjckmaaDoor
open Go.RowKit

/-- May a text be a name? -/
def nameB (l : List UInt8) : Bool := match l with | [] => false | c :: _ => decide (l.length ≤ 16) && !wordB l && isLet c && decide (rowLen isLod l = l.length)

theorem isEmpty_of (s : ByteArray) (h : 0 < s.size) : s.toList.isEmpty = false := by
  rw [ba_list]
  cases hx : s.data.toList with
  | nil => have := ba_len s; rw [hx] at this; simp at this; omega
  | cons _ _ => rfl

set_option maxHeartbeats 1000000 in
theorem name_empty (w : World) : Calls Tryd.prog 18 #[.string ⟨#[]⟩] w fun e w' => e = .returned (.bool false) ∧ w' = w := by
  go_enter Tryd.func18, Tryd.ntmps18
  go_wp2
  go_ret
  exact ⟨rfl, rfl⟩

set_option maxHeartbeats 1000000 in
theorem name_long (s : ByteArray) (w : World) (he : s.toList.isEmpty = false) (h : 16 < (s.size : Int)) : Calls Tryd.prog 18 #[.string s] w fun e w' => e = .returned (.bool false) ∧ w' = w := by
  go_enter Tryd.func18, Tryd.ntmps18
  go_wp2
  go_ret
  exact ⟨rfl, rfl⟩

set_option maxHeartbeats 1000000 in
theorem name_word (s : ByteArray) (w : World) (he : s.toList.isEmpty = false) (h : ¬ 16 < (s.size : Int)) (hw : wordB s.data.toList = true) : Calls Tryd.prog 18 #[.string s] w fun e w' => e = .returned (.bool false) ∧ w' = w := by
  have h16 : ∀ w, Calls Tryd.prog 16 #[.string s] w fun e w' => e = .returned (.bool true) ∧ w' = w := by intro w; rw [← hw]; exact word_any _ w
  clear hw
  go_enter Tryd.func18, Tryd.ntmps18
  go_wp2_with (go_at_call 16; refine (h16 _).mono ?_; rintro e w' ⟨rfl, rfl⟩)
  go_ret
  exact ⟨rfl, rfl⟩

set_option maxHeartbeats 1000000 in
theorem name_digit (s : ByteArray) (w : World) (h0 : 0 < s.size) (he : s.toList.isEmpty = false) (h : ¬ 16 < (s.size : Int)) (hw : wordB s.data.toList = false) (hl : letB s[0].toNat = false) : Calls Tryd.prog 18 #[.string s] w fun e w' => e = .returned (.bool false) ∧ w' = w := by
  have h16 : ∀ w, Calls Tryd.prog 16 #[.string s] w fun e w' => e = .returned (.bool false) ∧ w' = w := by intro w; rw [← hw]; exact word_any _ w
  have h28 : ∀ w, Calls Tryd.prog 28 #[.int .u8 s[0].toNat] w fun e w' => e = .returned (.bool false) ∧ w' = w := fun w => by rw [← hl]; exact letter_any _ w (by omega) (u8_le _)
  clear hw hl
  go_enter Tryd.func18, Tryd.ntmps18
  go_wp2_with (first | (go_at_call 16; refine (h16 _).mono ?_; rintro e w' ⟨rfl, rfl⟩) | (go_at_call 28; refine (h28 _).mono ?_; rintro e w' ⟨rfl, rfl⟩))
  go_ret
  exact ⟨rfl, rfl⟩

set_option maxHeartbeats 1000000 in
theorem name_rest (s : ByteArray) (b : Bool) (w : World) (h0 : 0 < s.size) (he : s.toList.isEmpty = false) (h : ¬ 16 < (s.size : Int)) (hw : wordB s.data.toList = false) (hl : letB s[0].toNat = true)
    (hb : (((rowLen isLod s.data.toList : Nat) : Int) == (s.size : Int)) = b) : Calls Tryd.prog 18 #[.string s] w fun e w' => e = .returned (.bool b) ∧ w' = w := by
  have h16 : ∀ w, Calls Tryd.prog 16 #[.string s] w fun e w' => e = .returned (.bool false) ∧ w' = w := by intro w; rw [← hw]; exact word_any _ w
  have h28 : ∀ w, Calls Tryd.prog 28 #[.int .u8 s[0].toNat] w fun e w' => e = .returned (.bool true) ∧ w' = w := fun w => by rw [← hl]; exact letter_any _ w (by omega) (u8_le _)
  have h29 : ∀ w, Calls Tryd.prog 29 #[.string s, .func (.func 30) #[] #[]] w fun e w' => e = .returned (.int .i64 (rowLen isLod s.data.toList : Nat)) ∧ w' = w := fun w => row_lod s w (by unfold maxLen; omega)
  clear hw hl
  go_enter Tryd.func18, Tryd.ntmps18
  go_wp2_with (first | (go_at_call 16; refine (h16 _).mono ?_; rintro e w' ⟨rfl, rfl⟩) | (go_at_call 28; refine (h28 _).mono ?_; rintro e w' ⟨rfl, rfl⟩) | (go_at_call 29; refine (h29 _).mono ?_; rintro e w' ⟨rfl, rfl⟩))
  go_ret
  exact ⟨ret_bool (by simp), rfl⟩

theorem nameB_cons {l : List UInt8} (h : 0 < l.length) : nameB l = (decide (l.length ≤ 16) && !wordB l && isLet l[0] && decide (rowLen isLod l = l.length)) := by
  cases l with
  | nil => simp at h
  | cons c r => rfl

theorem name_any (s : ByteArray) (w : World) : Calls Tryd.prog 18 #[.string s] w fun e w' => e = .returned (.bool (nameB s.data.toList)) ∧ w' = w := by
  have hlen := ba_len s
  by_cases h0 : 0 < s.size
  · have he := isEmpty_of s h0
    have hl0 : 0 < s.data.toList.length := by omega
    rw [nameB_cons hl0]
    by_cases h16 : s.size ≤ 16
    · have d1 : decide (s.data.toList.length ≤ 16) = true := by simp only [decide_eq_true_eq]; omega
      rw [d1]
      cases hw : wordB s.data.toList with
      | true => exact name_word s w he (by omega) hw
      | false =>
        cases hl : letB s[0].toNat with
        | false => rw [show isLet s.data.toList[0] = false from hl]; simp only [Bool.and_false, Bool.false_and]; exact name_digit s w h0 he (by omega) hw hl
        | true =>
          rw [show isLet s.data.toList[0] = true from hl]; simp only [Bool.not_false, Bool.and_true, Bool.true_and]
          refine name_rest s _ w h0 he (by omega) hw hl ?_
          rw [hlen, Bool.eq_iff_iff]; simp only [beq_iff_eq, decide_eq_true_eq]; omega
    · have d1 : decide (s.data.toList.length ≤ 16) = false := by simp only [decide_eq_false_iff_not]; omega
      rw [d1]; simp only [Bool.false_and]
      exact name_long s w he (by omega)
  · have : s = ⟨#[]⟩ := by
      apply ByteArray.ext; apply Array.eq_empty_of_size_eq_zero; show s.size = 0; omega
    rw [this]; exact name_empty w

end Go.Proofs.YtdlddloggjckmaaDoor
