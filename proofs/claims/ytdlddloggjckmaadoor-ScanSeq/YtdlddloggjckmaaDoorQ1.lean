/- The reference's small functions: Letter, Digit, blank: each answers what its plain function says; the world stays. -/
import Derived.Test.YtdlddloggjckmaaDoorP
import Derived.Deep.LoopGhost
namespace Go.Proofs.YtdlddloggjckmaaDoor
open Go.RowKit

set_option maxHeartbeats 400000 in
theorem rLetter_any (n : Int) (w : World) (h0 : 0 ≤ n) (h1 : n ≤ 255) :
    Calls Tryd.prog 35 #[.int .u8 n] w fun e w' => e = .returned (.bool (letB n)) ∧ w' = w := by
  by_cases h : 97 ≤ n
  · go_enter Tryd.func35, Tryd.ntmps35
    go_wp2
    go_ret
    exact ⟨ret_bool (by simp [letB, h]), rfl⟩
  · go_enter Tryd.func35, Tryd.ntmps35
    go_wp2
    go_ret
    exact ⟨ret_bool (by simp [letB]; omega), rfl⟩

set_option maxHeartbeats 400000 in
theorem rDigit_any (n : Int) (w : World) (h0 : 0 ≤ n) (h1 : n ≤ 255) :
    Calls Tryd.prog 36 #[.int .u8 n] w fun e w' => e = .returned (.bool (digB n)) ∧ w' = w := by
  by_cases h : 48 ≤ n
  · go_enter Tryd.func36, Tryd.ntmps36
    go_wp2
    go_ret
    exact ⟨ret_bool (by simp [digB, h]), rfl⟩
  · go_enter Tryd.func36, Tryd.ntmps36
    go_wp2
    go_ret
    exact ⟨ret_bool (by simp [digB]; omega), rfl⟩

set_option maxHeartbeats 1000000 in
theorem blank_any (s : ByteArray) (a : Int) (w : World) (hs : s.size ≤ maxLen) (h0 : 0 ≤ a) (h1 : a ≤ s.size) :
    Calls Tryd.prog 21 #[.string s, .int .i64 a] w fun e w' => e = .returned (.int .i64 (passEnd false s.data.toList a.toNat : Nat)) ∧ w' = w := by
  unfold maxLen at hs
  obtain ⟨k0, rfl⟩ := Int.eq_ofNat_of_zero_le h0
  rw [Int.toNat_natCast]
  go_enter Tryd.func21, Tryd.ntmps21
  go_wp2
  go_loopg [1] (s.size - k0) (fun g i wx => ∃ k : Nat, k + g = s.size ∧ i = .int .i64 k ∧ Aside (passEnd false s.data.toList k = passEnd false s.data.toList k0) ∧ wx = w)
  case atStart => exact ⟨k0, by omega, rfl, rfl, rfl⟩
  case round =>
    obtain ⟨k, hk, rfl, HI, rfl⟩ := hrel
    cases gk with
    | zero =>
      have hn : ¬ ((k : Int) < (s.size : Int)) := by omega
      have HE : Aside (passEnd false s.data.toList k0 = k) := HI.out.symm.trans (passEnd_end false s.data.toList k (by rw [ba_len]; omega))
      go_wp2
      go_ret
      exact ⟨ret_int (by rw [HE.out]), rfl⟩
    | succ g =>
      have hlt : k < s.size := by omega
      go_wp2
      · have hb : blankB s.data.toList[k] = true := blank_of32 (by assumption)
        have HJ := HI.out.symm.trans (passEnd_blank s.data.toList k hlt hb)
        go_roundg g
        case rel => exact ⟨k + 1, by omega, by go_num, HJ.symm, rfl⟩
        case measure => omega
      · have hb : blankB s.data.toList[k] = true := blank_of9 (by assumption)
        have HJ := HI.out.symm.trans (passEnd_blank s.data.toList k hlt hb)
        go_roundg g
        case rel => exact ⟨k + 1, by omega, by go_num, HJ.symm, rfl⟩
        case measure => omega
      · have hb : blankB s.data.toList[k] = true := blank_of10 (by assumption)
        have HJ := HI.out.symm.trans (passEnd_blank s.data.toList k hlt hb)
        go_roundg g
        case rel => exact ⟨k + 1, by omega, by go_num, HJ.symm, rfl⟩
        case measure => omega
      · have hb : blankB s.data.toList[k] = true := blank_of13 (by assumption)
        have HJ := HI.out.symm.trans (passEnd_blank s.data.toList k hlt hb)
        go_roundg g
        case rel => exact ⟨k + 1, by omega, by go_num, HJ.symm, rfl⟩
        case measure => omega
      · have hb : ((s.data.toList[k].toNat : Int) == 35) = true := by assumption
        have HJ : Aside (passEnd true s.data.toList k = passEnd false s.data.toList k0) := ((passEnd_hash0 s.data.toList k hlt hb).symm.trans HI.out)
        have HB : Aside (((s.data.toList[k].toNat : Int) == 35) = true) := hb
        clear hb HI
        go_loopg [1] (s.size - k) (fun g2 i wx => ∃ j : Nat, j + g2 = s.size ∧ i = .int .i64 j ∧ k ≤ j ∧ Aside (passEnd true s.data.toList j = passEnd false s.data.toList k0) ∧ wx = wr)
        case atStart => exact ⟨k, by omega, rfl, Nat.le_refl _, HJ, rfl⟩
        case round =>
          obtain ⟨j, hj, rfl, hkj, HL, rfl⟩ := hrel
          by_cases hlt2 : j < s.size
          · cases hnl : ((s[j].toNat : Int) == 10) with
            | true =>
              have hne : (s[j].toNat : Int) = 10 := by simpa using hnl
              have hjk : k < j := by
                rcases Nat.lt_or_eq_of_le hkj with h | h
                · exact h
                · subst h
                  have h35 : (s[k].toNat : Int) = 35 := beq_iff_eq.1 HB.out
                  omega
              have HM := (passEnd_line0 s.data.toList j hlt2 hnl).symm.trans HL.out
              have hnn : ((s[j].toNat : Int) != 10) = false := by simpa using hne
              clear hne
              go_wp2
              go_roundg (s.size - j)
              case rel => exact ⟨j, by omega, rfl, HM, rfl⟩
              case measure => omega
            | false =>
              have HM := (passEnd_in s.data.toList j hlt2 hnl).symm.trans HL.out
              have hnn : ((s[j].toNat : Int) != 10) = true := by simpa using hnl
              obtain ⟨g2, rfl⟩ : ∃ g2, gk = g2 + 1 := ⟨gk - 1, by omega⟩
              go_wp2
              go_roundg g2
              case rel => exact ⟨j + 1, by omega, by go_num, by omega, HM, rfl⟩
              case measure => omega
          · have HM : passEnd false s.data.toList j = passEnd false s.data.toList k0 := by
              rw [← HL.out, passEnd_end false s.data.toList j (by rw [ba_len]; omega), passEnd_end true s.data.toList j (by rw [ba_len]; omega)]
            go_wp2
            go_roundg (s.size - j)
            case rel => exact ⟨j, by omega, rfl, HM, rfl⟩
            case measure => omega
      · have h32 : ((s.data.toList[k].toNat : Int) == 32) = false := by assumption
        have h9 : ((s.data.toList[k].toNat : Int) == 9) = false := by assumption
        have h10 : ((s.data.toList[k].toNat : Int) == 10) = false := by assumption
        have h13 : ((s.data.toList[k].toNat : Int) == 13) = false := by assumption
        have h35 : ((s.data.toList[k].toNat : Int) == 35) = false := by assumption
        have hb : blankB s.data.toList[k] = false := blank_not h32 h9 h10 h13
        have HE : passEnd false s.data.toList k0 = k := HI.out.symm.trans (passEnd_stop s.data.toList k hlt hb h35)
        go_ret
        exact ⟨ret_int (by rw [HE]), rfl⟩
end Go.Proofs.YtdlddloggjckmaaDoor
