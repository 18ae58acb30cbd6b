/- scan.Word and scan.signLength: each answers what its plain function says; the world stays. -/
import Derived.Test.YtdlddloggjckmaaDoorP
import Derived.Test.YtdlddloggjckmaaDoorM2
import Derived.Lib.Walk
import Derived.WalkKit
namespace Go.Proofs.YtdlddloggjckmaaDoor
open Go.RowKit

theorem ba_list (s : ByteArray) : s.toList = s.data.toList := ByteArray.toList_eq s
theorem ba_take (s : ByteArray) (n : Nat) : (s.extract 0 n).toList = s.data.toList.take n := by
  rw [ba_list]; simp

set_option maxHeartbeats 2000000 in
theorem word_any (s : ByteArray) (w : World) :
    Calls Tryd.prog 16 #[.string s] w fun e w' => e = .returned (.bool (wordB s.data.toList)) ∧ w' = w := by
  rw [← ba_list]
  go_enter Tryd.func16, Tryd.ntmps16
  go_wp2
  all_goals first
    | (exfalso; have hx : ∀ b : Bool, b = true → b = false → False := (fun b h1 h2 => by rw [h1] at h2; cases h2); exact hx _ (by assumption) (by assumption))
    | (go_ret; exact ⟨ret_bool (by simp only [wordB, *, Bool.or_true, Bool.true_or, Bool.or_false]), rfl⟩)


theorem bool_tf {b : Bool} (h1 : b = true) (h2 : b = false) : False := by rw [h1] at h2; cases h2

set_option maxHeartbeats 2000000 in
theorem sign_two (s : ByteArray) (w : World) (hs : s.size ≤ maxLen) (h2 : 2 ≤ s.size) (ht : sign2B (s.data.toList.take 2) = true) :
    Calls Tryd.prog 46 #[.string s] w fun e w' => e = .returned (.int .i64 2) ∧ w' = w := by
  unfold maxLen at hs
  have e1 : (s.extract 0 2).toList = s.data.toList.take 2 := ba_take s 2
  rw [← e1] at ht
  clear e1
  unfold sign2B at ht
  simp only [Bool.or_eq_true, beq_iff_eq] at ht
  have hl : 2 ≤ (s.size : Int) := by omega
  rcases ht with (((((h | h) | h) | h) | h) | h) | h
  all_goals
    go_enter Tryd.func46, Tryd.ntmps46
    go_wp2
    go_ret
    exact ⟨rfl, rfl⟩

set_option maxHeartbeats 4000000 in
theorem sign_one (s : ByteArray) (w : World) (hs : s.size ≤ maxLen) (h0 : 0 < s.size) (ht : 2 ≤ s.size → sign2B (s.data.toList.take 2) = false) :
    Calls Tryd.prog 46 #[.string s] w fun e w' => e = .returned (.int .i64 (s1N s[0].toNat)) ∧ w' = w := by
  unfold maxLen at hs
  by_cases hl : 2 ≤ s.size
  · have e1 : (s.extract 0 2).toList = s.data.toList.take 2 := ba_take s 2
    have h := ht hl
    rw [← e1] at h
    clear e1 ht
    unfold sign2B at h
    simp only [Bool.or_eq_false_iff] at h
    obtain ⟨⟨⟨⟨⟨⟨a1, a2⟩, a3⟩, a4⟩, a5⟩, a6⟩, a7⟩ := h
    have hl : 2 ≤ (s.size : Int) := by omega
    go_enter Tryd.func46, Tryd.ntmps46
    go_wp2
    all_goals first
      | exact (bool_tf (by assumption) (by assumption)).elim
      | (go_ret; exact ⟨ret_int (by simp only [s1N, sign1B, *, Bool.or_true, Bool.true_or, Bool.or_false, if_true]; try simp), rfl⟩)
  · have hl : ¬ 2 ≤ (s.size : Int) := by omega
    clear ht
    go_enter Tryd.func46, Tryd.ntmps46
    go_wp2
    all_goals first
      | exact (bool_tf (by assumption) (by assumption)).elim
      | (go_ret; exact ⟨ret_int (by simp only [s1N, sign1B, *, Bool.or_true, Bool.true_or, Bool.or_false, if_true]; try simp), rfl⟩)

end Go.Proofs.YtdlddloggjckmaaDoor
