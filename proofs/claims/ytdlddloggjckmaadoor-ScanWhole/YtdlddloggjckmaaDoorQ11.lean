/- The statements' own gap: blanks and remarks alone; the world stays. -/
import Derived.Test.YtdlddloggjckmaaDoorP
namespace Go.Proofs.YtdlddloggjckmaaDoor
open Go.RowKit

/-- Are these bytes blanks and remarks alone (true: within a remark)? -/
def gapB : Bool → List UInt8 → Bool
  | _, [] => true
  | b, c :: r => if (c.toNat : Int) == 10 then gapB false r else if (c.toNat : Int) == 35 then gapB true r else if !b && !((c.toNat : Int) == 32) && !((c.toNat : Int) == 9) && !((c.toNat : Int) == 13) then false else gapB b r

theorem gap_skip : ∀ (l : List UInt8) (b : Bool), gapB b (l.take (skip b l)) = true
  | [], b => by cases b <;> rfl
  | c :: r, true => by
    rw [skip]
    split
    · rename_i h; rw [List.take_succ_cons, gapB, if_pos h]; exact gap_skip r false
    · rename_i h
      rw [List.take_succ_cons, gapB, if_neg h]
      split
      · exact gap_skip r true
      · rw [if_neg (by simp)]; exact gap_skip r true
  | c :: r, false => by
    rw [skip]
    split
    · rename_i h
      rw [List.take_succ_cons, gapB]
      have ih := gap_skip r false
      split
      · exact ih
      · rename_i h10
        have h35 : ¬ ((c.toNat : Int) == 35) = true := by
          intro h35
          simp [blankB] at h h35 h10
          omega
        rw [if_neg h35, if_neg]
        · exact ih
        · simp [blankB] at h h10 ⊢; omega
    · split
      · rename_i h35
        have h10 : ¬ ((c.toNat : Int) == 10) = true := by simp at h35 ⊢; omega
        rw [List.take_succ_cons, gapB, if_neg h10, if_pos h35]; exact gap_skip r true
      · rfl

theorem gap_drop (l : List UInt8) (k : Nat) (h : k < l.length) (b : Bool) : gapB b (l.drop k) = if (l[k].toNat : Int) == 10 then gapB false (l.drop (k + 1)) else if (l[k].toNat : Int) == 35 then gapB true (l.drop (k + 1)) else if !b && !((l[k].toNat : Int) == 32) && !((l[k].toNat : Int) == 9) && !((l[k].toNat : Int) == 13) then false else gapB b (l.drop (k + 1)) := by
  rw [List.drop_eq_getElem_cons h, gapB]

set_option maxHeartbeats 2000000 in
theorem gap_yes (s : ByteArray) (w : World) (hs : s.size ≤ maxLen) (hg : gapB false s.data.toList = true) : Calls Tryd.prog 15 #[.string s] w fun e w' => e = .returned (.bool true) ∧ w' = w := by
  unfold maxLen at hs
  have HG : Hid (gapB false s.data.toList = true) := hg
  clear hg
  go_enter Tryd.func15, Tryd.ntmps15
  go_wp2
  go_loop [3, 4] (fun r t => ∃ (b : Bool) (k : Nat), k ≤ s.size ∧ r = .bool b ∧ t = .int .i64 k ∧ Hid (gapB b (s.data.toList.drop k) = true)) (fun _ t => s.size - (intOf t).toNat)
  case atStart => exact ⟨false, 0, Nat.zero_le _, rfl, rfl, HG⟩
  case round =>
    obtain ⟨b, k, hk, rfl, rfl, HI⟩ := hrel
    by_cases hlt : k < s.size
    · have hd := gap_drop s.data.toList k (by rw [ba_len]; exact hlt) b
      rw [HI.out] at hd
      cases h10 : ((s[k].toNat : Int) == 10) with
      | true =>
        have HN : Hid (gapB false (s.data.toList.drop (k + 1)) = true) := by
          rw [if_pos (show ((s.data.toList[k].toNat : Int) == 10) = true from h10)] at hd; exact hd.symm
        clear hd
        go_wp2
        go_round
        case rel => exact ⟨false, k + 1, by omega, rfl, by go_num, HN⟩
        case measure => simp [intOf]; omega
      | false =>
        rw [if_neg (show ¬ ((s.data.toList[k].toNat : Int) == 10) = true from fun h => by rw [show ((s.data.toList[k].toNat : Int) == 10) = false from h10] at h; cases h)] at hd
        cases h35 : ((s[k].toNat : Int) == 35) with
        | true =>
          have HN : Hid (gapB true (s.data.toList.drop (k + 1)) = true) := by
            rw [if_pos (show ((s.data.toList[k].toNat : Int) == 35) = true from h35)] at hd; exact hd.symm
          clear hd
          go_wp2
          go_round
          case rel => exact ⟨true, k + 1, by omega, rfl, by go_num, HN⟩
          case measure => simp [intOf]; omega
        | false =>
          rw [if_neg (show ¬ ((s.data.toList[k].toNat : Int) == 35) = true from fun h => by rw [show ((s.data.toList[k].toNat : Int) == 35) = false from h35] at h; cases h)] at hd
          have hcond : (!b && !((s[k].toNat : Int) == 32) && !((s[k].toNat : Int) == 9) && !((s[k].toNat : Int) == 13)) = false := by
            cases hc : (!b && !((s[k].toNat : Int) == 32) && !((s[k].toNat : Int) == 9) && !((s[k].toNat : Int) == 13)) with
            | false => rfl
            | true => rw [if_pos (show (!b && !((s.data.toList[k].toNat : Int) == 32) && !((s.data.toList[k].toNat : Int) == 9) && !((s.data.toList[k].toNat : Int) == 13)) = true from hc)] at hd; cases hd
          have HN : Hid (gapB b (s.data.toList.drop (k + 1)) = true) := by
            rw [if_neg (show ¬ (!b && !((s.data.toList[k].toNat : Int) == 32) && !((s.data.toList[k].toNat : Int) == 9) && !((s.data.toList[k].toNat : Int) == 13)) = true from fun h => by rw [show (!b && !((s.data.toList[k].toNat : Int) == 32) && !((s.data.toList[k].toNat : Int) == 9) && !((s.data.toList[k].toNat : Int) == 13)) = false from hcond] at h; cases h)] at hd
            exact hd.symm
          clear hd
          cases b
          · cases h32 : ((s[k].toNat : Int) == 32) with
            | true =>
              have n32 : ((s[k].toNat : Int) != 32) = false := by simpa using h32
              clear hcond
              go_wp2
              go_round
              case rel => exact ⟨false, k + 1, by omega, rfl, by go_num, HN⟩
              case measure => simp [intOf]; omega
            | false =>
              have n32 : ((s[k].toNat : Int) != 32) = true := by simpa using h32
              cases h9 : ((s[k].toNat : Int) == 9) with
              | true =>
                have n9 : ((s[k].toNat : Int) != 9) = false := by simpa using h9
                clear hcond
                go_wp2
                go_round
                case rel => exact ⟨false, k + 1, by omega, rfl, by go_num, HN⟩
                case measure => simp [intOf]; omega
              | false =>
                have n9 : ((s[k].toNat : Int) != 9) = true := by simpa using h9
                have h13 : ((s[k].toNat : Int) == 13) = true := by rw [h32, h9] at hcond; simpa using hcond
                have n13 : ((s[k].toNat : Int) != 13) = false := by simpa using h13
                clear hcond
                go_wp2
                go_round
                case rel => exact ⟨false, k + 1, by omega, rfl, by go_num, HN⟩
                case measure => simp [intOf]; omega
          · clear hcond
            go_wp2
            go_round
            case rel => exact ⟨true, k + 1, by omega, rfl, by go_num, HN⟩
            case measure => simp [intOf]; omega
    · go_wp2
      go_ret
      exact ⟨rfl, rfl⟩
end Go.Proofs.YtdlddloggjckmaaDoor
