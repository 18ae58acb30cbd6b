/- The reference's plain and Name: what each answers. -/
import Derived.Test.YtdlddloggjckmaaDoorQ1
import Derived.Test.YtdlddloggjckmaaDoorQ2
import Derived.Test.YtdlddloggjckmaaDoorN
namespace Go.Proofs.YtdlddloggjckmaaDoor
open Go.RowKit

def plainB (l : List UInt8) : Bool := match l with | [] => false | c :: _ => isLet c && decide (rowLen isLod l = l.length)
theorem plainB_cons {l : List UInt8} (h : 0 < l.length) : plainB l = (isLet l[0] && decide (rowLen isLod l = l.length)) := by
  cases l with
  | nil => simp at h
  | cons c r => rfl
theorem nameB_eq (l : List UInt8) : nameB l = (decide (l.length ≤ 16) && plainB l && !wordB l) := by
  cases l with
  | nil => rfl
  | cons c r =>
    simp only [nameB, plainB]
    cases decide ((c :: r).length ≤ 16) <;> cases wordB (c :: r) <;> cases isLet c <;> cases decide (rowLen isLod (c :: r) = (c :: r).length) <;> rfl

theorem beq_nat {a b : Nat} (h : a ≠ b) : ((a : Int) == (b : Int)) = false := by rw [beq_eq_false_iff_ne]; omega

set_option maxHeartbeats 1000000 in
theorem plain_any (s : ByteArray) (w : World) (hs : s.size ≤ maxLen) :
    Calls Tryd.prog 31 #[.string s] w fun e w' => e = .returned (.bool (plainB s.data.toList)) ∧ w' = w := by
  unfold maxLen at hs
  have hlen := ba_len s
  have HLen : Hid (s.data.toList.length = s.size) := hlen
  clear hlen
  go_enter Tryd.func31, Tryd.ntmps31
  go_wp2
  go_loop [3] (fun i => ∃ k : Nat, k ≤ s.size ∧ i = .int .i64 k ∧ k ≤ rowLen isLod s.data.toList ∧ Hid (0 < k → ∃ h : 0 < s.data.toList.length, isLet s.data.toList[0] = true)) (fun i => s.size - (intOf i).toNat)
  case atStart => exact ⟨0, Nat.zero_le _, rfl, Nat.zero_le _, fun h => by omega⟩
  case round =>
    obtain ⟨k, hk, rfl, hr, HL⟩ := hrel
    by_cases hlt : k < s.size
    · have c0 : (0 : Int) ≤ s[k].toNat := by omega
      have h35 : ∀ b, letB s[k].toNat = b → ∀ w, Calls Tryd.prog 35 #[.int .u8 s[k].toNat] w fun e w' => e = .returned (.bool b) ∧ w' = w := fun b hb w => by rw [← hb]; exact rLetter_any _ w c0 (u8_le _)
      have h36 : ∀ b, digB s[k].toNat = b → ∀ w, Calls Tryd.prog 36 #[.int .u8 s[k].toNat] w fun e w' => e = .returned (.bool b) ∧ w' = w := fun b hb w => by rw [← hb]; exact rDigit_any _ w c0 (u8_le _)
      have hl0 : 0 < s.data.toList.length := by rw [HLen.out]; omega
      cases hb1 : letB s[k].toNat with
      | true =>
        have g35 := h35 true hb1
        have hit := rowLen_hit isLod s.data.toList k hr hlt (by show (letB _ || digB _) = true; rw [show letB (s.data.toList[k].toNat) = true from hb1]; rfl)
        have HL' : Hid (0 < k + 1 → ∃ h : 0 < s.data.toList.length, isLet s.data.toList[0] = true) := fun _ => by
          rcases Nat.eq_zero_or_pos k with h | h
          · subst h; exact ⟨hl0, hb1⟩
          · exact HL.out h
        clear h35 h36 hb1 hl0
        go_wp2_with (go_at_call 35; refine (g35 _).mono ?_; rintro e w' ⟨rfl, rfl⟩)
        go_round
        case rel => exact ⟨k + 1, by omega, by go_num, hit, HL'⟩
        case measure => simp [intOf]; omega
      | false =>
        have g35 := h35 false hb1
        by_cases hk0 : k = 0
        · have HE : Hid (plainB s.data.toList = false) := by
            show plainB s.data.toList = false
            rw [plainB_cons hl0]
            subst hk0
            rw [show isLet s.data.toList[0] = false from hb1]; rfl
          have hz : ((k : Int) == 0) = true := by rw [hk0]; rfl
          clear h35 h36 hb1 hl0 hk0
          go_wp2_with (go_at_call 35; refine (g35 _).mono ?_; rintro e w' ⟨rfl, rfl⟩)
          go_ret
          exact ⟨ret_bool (by rw [HE.out]), rfl⟩
        · have hz : ((k : Int) == 0) = false := beq_nat hk0
          cases hb2 : digB s[k].toNat with
          | true =>
            have g36 := h36 true hb2
            have hit := rowLen_hit isLod s.data.toList k hr hlt (by show (letB _ || digB _) = true; rw [show digB (s.data.toList[k].toNat) = true from hb2]; simp)
            have HL' : Hid (0 < k + 1 → ∃ h : 0 < s.data.toList.length, isLet s.data.toList[0] = true) := fun _ => HL.out (by omega)
            clear h35 h36 hb1 hb2 hl0 hk0
            go_wp2_with (first | (go_at_call 35; refine (g35 _).mono ?_; rintro e w' ⟨rfl, rfl⟩) | (go_at_call 36; refine (g36 _).mono ?_; rintro e w' ⟨rfl, rfl⟩))
            go_round
            case rel => exact ⟨k + 1, by omega, by go_num, hit, HL'⟩
            case measure => simp [intOf]; omega
          | false =>
            have g36 := h36 false hb2
            have hend := rowLen_miss isLod s.data.toList k hr hlt (by show (letB _ || digB _) = false; rw [show letB (s.data.toList[k].toNat) = false from hb1, show digB (s.data.toList[k].toNat) = false from hb2]; rfl)
            have HE : Hid (plainB s.data.toList = false) := by
              show plainB s.data.toList = false
              rw [plainB_cons hl0, hend, HLen.out]
              rw [show decide (k = s.size) = false from by simp only [decide_eq_false_iff_not]; omega]; simp
            clear h35 h36 hb1 hb2 hl0 hk0 hend
            go_wp2_with (first | (go_at_call 35; refine (g35 _).mono ?_; rintro e w' ⟨rfl, rfl⟩) | (go_at_call 36; refine (g36 _).mono ?_; rintro e w' ⟨rfl, rfl⟩))
            go_ret
            exact ⟨ret_bool (by rw [HE.out]), rfl⟩
    · have hks : k = s.size := by omega
      have HE : Hid (decide (0 < (s.size : Int)) = plainB s.data.toList) := by
        show decide (0 < (s.size : Int)) = plainB s.data.toList
        have hle := rowLen_le isLod s.data.toList
        rw [HLen.out] at hle
        by_cases h0 : 0 < s.size
        · obtain ⟨hl0, h1⟩ := HL.out (by omega)
          rw [plainB_cons hl0, h1, HLen.out, show decide (rowLen isLod s.data.toList = s.size) = true from by simp only [decide_eq_true_eq]; omega]
          simp only [Bool.and_self, decide_eq_true_eq]; omega
        · have he : s.data.toList = [] := by apply List.eq_nil_of_length_eq_zero; rw [HLen.out]; omega
          rw [he, show decide (0 < (s.size : Int)) = false from by simp only [decide_eq_false_iff_not]; omega]; rfl
      clear hks
      go_wp2
      go_ret
      exact ⟨ret_bool (by rw [← HE.out]; simp), rfl⟩

set_option maxHeartbeats 1000000 in
theorem rName_long (s : ByteArray) (w : World) (h : ¬ (s.size : Int) ≤ 16) :
    Calls Tryd.prog 19 #[.string s] w fun e w' => e = .returned (.bool false) ∧ Below w.heap.size w w' := by
  go_enter Tryd.func19, Tryd.ntmps19
  go_wp2
  go_ret
  exact ⟨rfl, Below.refl _ _⟩

set_option maxHeartbeats 1000000 in
theorem rName_unplain (s : ByteArray) (w : World) (h : (s.size : Int) ≤ 16) (hp : plainB s.data.toList = false) :
    Calls Tryd.prog 19 #[.string s] w fun e w' => e = .returned (.bool false) ∧ Below w.heap.size w w' := by
  have h31 : ∀ w, Calls Tryd.prog 31 #[.string s] w fun e w' => e = .returned (.bool false) ∧ w' = w := fun w => by rw [← hp]; exact plain_any s w (by unfold maxLen; omega)
  clear hp
  go_enter Tryd.func19, Tryd.ntmps19
  go_wp2_with (go_at_call 31; refine (h31 _).mono ?_; rintro e w' ⟨rfl, rfl⟩)
  go_ret
  exact ⟨rfl, Below.refl _ _⟩

set_option maxHeartbeats 1000000 in
theorem rName_plain (s : ByteArray) (b : Bool) (w : World) (h : (s.size : Int) ≤ 16) (hp : plainB s.data.toList = true) (hb : wordB s.data.toList = b) :
    Calls Tryd.prog 19 #[.string s] w fun e w' => e = .returned (.bool (!b)) ∧ Below w.heap.size w w' := by
  have h31 : ∀ w, Calls Tryd.prog 31 #[.string s] w fun e w' => e = .returned (.bool true) ∧ w' = w := fun w => by rw [← hp]; exact plain_any s w (by unfold maxLen; omega)
  have h17 : ∀ w, Calls Tryd.prog 17 #[.string s] w fun e w' => e = .returned (.bool b) ∧ Below w.heap.size w w' := fun w => by rw [← hb]; exact rWord_any s w
  clear hp hb
  cases b
  all_goals
    go_enter Tryd.func19, Tryd.ntmps19
    go_wp2_with (first | (go_at_call 31; refine (h31 _).mono ?_; rintro e w' ⟨rfl, rfl⟩) | (go_at_call 17; refine (h17 _).mono ?_; rintro e w1 ⟨rfl, hb1⟩))
    go_ret
    exact ⟨rfl, hb1⟩

theorem rName_any (s : ByteArray) (w : World) :
    Calls Tryd.prog 19 #[.string s] w fun e w' => e = .returned (.bool (nameB s.data.toList)) ∧ Below w.heap.size w w' := by
  have hlen := ba_len s
  rw [nameB_eq]
  by_cases h : s.size ≤ 16
  · rw [show decide (s.data.toList.length ≤ 16) = true from by simp only [decide_eq_true_eq]; omega]
    cases hp : plainB s.data.toList with
    | true => exact rName_plain s _ w (by omega) hp rfl
    | false => exact rName_unplain s w (by omega) hp
  · rw [show decide (s.data.toList.length ≤ 16) = false from by simp only [decide_eq_false_iff_not]; omega]
    exact rName_long s w (by omega)

end Go.Proofs.YtdlddloggjckmaaDoor
