/- scan.pass: where blanks and remarks from a place on end; the world stays. -/
import Derived.Test.YtdlddloggjckmaaDoorA
import Derived.Deep.LoopGhost
namespace Go.Proofs.YtdlddloggjckmaaDoor
open Go.RowKit
theorem ba_len (s : ByteArray) : s.data.toList.length = s.size := by rw [Array.length_toList]; rfl

set_option maxHeartbeats 1000000 in
theorem pass_any (s : ByteArray) (a : Int) (w : World) (hs : s.size ≤ maxLen) (h0 : 0 ≤ a) (h1 : a ≤ s.size) :
    Calls Tryd.prog 33 #[.string s, .int .i64 a] w fun e w' => e = .returned (.int .i64 (passEnd false s.data.toList a.toNat : Nat)) ∧ w' = w := by
  unfold maxLen at hs
  obtain ⟨k0, rfl⟩ := Int.eq_ofNat_of_zero_le h0
  rw [Int.toNat_natCast]
  go_enter Tryd.func33, Tryd.ntmps33
  go_wp2
  go_step3
  go_wp2
  go_step3
  go_wp2
  go_loopg [1] (s.size - k0) (fun g i wx => ∃ k : Nat, k + g = s.size ∧ i = .int .i64 k ∧ Aside (passEnd false s.data.toList k = passEnd false s.data.toList k0) ∧ wx = w)
  case atStart => exact ⟨k0, by omega, rfl, rfl, rfl⟩
  case round =>
    obtain ⟨k, hk, rfl, HI, rfl⟩ := hrel
    cases gk with
    | zero =>
      have hn : ¬ ((k : Int) < (s.size : Int)) := by omega
      have HE : Aside (passEnd false s.data.toList k0 = k) := HI.out.symm.trans (passEnd_end false s.data.toList k (by rw [ba_len]; omega))
      go_wp2
      go_ret
      exact ⟨ret_int (by rw [HE.out]), rfl⟩
    | succ g =>
      have hlt : k < s.size := by omega
      go_wp2
      · have hb : blankB s.data.toList[k] = true := blank_of32 (by assumption)
        have HJ := HI.out.symm.trans (passEnd_blank s.data.toList k hlt hb)
        go_roundg g
        case rel => exact ⟨k + 1, by omega, by go_num, HJ.symm, rfl⟩
        case measure => omega
      · have hb : blankB s.data.toList[k] = true := blank_of9 (by assumption)
        have HJ := HI.out.symm.trans (passEnd_blank s.data.toList k hlt hb)
        go_roundg g
        case rel => exact ⟨k + 1, by omega, by go_num, HJ.symm, rfl⟩
        case measure => omega
      · have hb : blankB s.data.toList[k] = true := blank_of10 (by assumption)
        have HJ := HI.out.symm.trans (passEnd_blank s.data.toList k hlt hb)
        go_roundg g
        case rel => exact ⟨k + 1, by omega, by go_num, HJ.symm, rfl⟩
        case measure => omega
      · have hb : blankB s.data.toList[k] = true := blank_of13 (by assumption)
        have HJ := HI.out.symm.trans (passEnd_blank s.data.toList k hlt hb)
        go_roundg g
        case rel => exact ⟨k + 1, by omega, by go_num, HJ.symm, rfl⟩
        case measure => omega
      · have hb : ((s.data.toList[k].toNat : Int) == 35) = true := by assumption
        have HJ : Aside (passEnd true s.data.toList k = passEnd false s.data.toList k0) := ((passEnd_hash0 s.data.toList k hlt hb).symm.trans HI.out)
        clear hb HI
        go_loopg [1] (s.size - k) (fun g2 i wx => ∃ j : Nat, j + g2 = s.size ∧ i = .int .i64 j ∧ k ≤ j ∧ Aside (passEnd true s.data.toList j = passEnd false s.data.toList k0) ∧ wx = wr)
        case atStart => exact ⟨k, by omega, rfl, Nat.le_refl _, HJ, rfl⟩
        case round =>
          obtain ⟨j, hj, rfl, hkj, HL, rfl⟩ := hrel
          cases gk with
          | zero =>
            have hn : ¬ ((j : Int) < (s.size : Int)) := by omega
            have HE : Aside (passEnd false s.data.toList k0 = j) := HL.out.symm.trans (passEnd_end true s.data.toList j (by rw [ba_len]; omega))
            go_wp2
            try rw [Exit.noGoto_ret]
            go_ret
            exact ⟨ret_int (by rw [HE.out]), rfl⟩
          | succ g2 =>
            have hlt2 : j < s.size := by omega
            go_wp2
            · have hb : ((s.data.toList[j].toNat : Int) == 10) = true := by assumption
              have HM := (passEnd_line s.data.toList j hlt2 hb).symm.trans HL.out
              go_roundg g2
              case rel => exact ⟨j + 1, by omega, by go_num, HM, rfl⟩
              case measure => omega
            · have hb : ((s.data.toList[j].toNat : Int) == 10) = false := by assumption
              have HM := (passEnd_in s.data.toList j hlt2 hb).symm.trans HL.out
              go_roundg g2
              case rel => exact ⟨j + 1, by omega, by go_num, by omega, HM, rfl⟩
              case measure => omega
      · have h32 : ((s.data.toList[k].toNat : Int) == 32) = false := by assumption
        have h9 : ((s.data.toList[k].toNat : Int) == 9) = false := by assumption
        have h10 : ((s.data.toList[k].toNat : Int) == 10) = false := by assumption
        have h13 : ((s.data.toList[k].toNat : Int) == 13) = false := by assumption
        have h35 : ((s.data.toList[k].toNat : Int) == 35) = false := by assumption
        have hb : blankB s.data.toList[k] = false := blank_not h32 h9 h10 h13
        have HE : passEnd false s.data.toList k0 = k := HI.out.symm.trans (passEnd_stop s.data.toList k hlt hb h35)
        try rw [Exit.noGoto_ret]
        go_ret
        exact ⟨ret_int (by rw [HE]), rfl⟩
end Go.Proofs.YtdlddloggjckmaaDoor
