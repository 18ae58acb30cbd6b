/- The reference's one, at a digit: the number there, or what is wrong. -/
import Derived.Test.YtdlddloggjckmaaDoorQ5
namespace Go.Proofs.YtdlddloggjckmaaDoor
open Go.RowKit

set_option maxRecDepth 100000 in
set_option maxHeartbeats 4000000 in
theorem one_dig (s : ByteArray) (k m : Nat) (vn : Int) (vb : Bool) (w : World) (hs : s.size ≤ 281474976710656) (hk : k < s.size) (hl : letB s[k].toNat = false) (hd : digB s[k].toNat = true) (hkm : k ≤ m) (hms : m ≤ s.size) (hL : rowLen isDig (s.data.toList.drop k) = m - k)
    (h37 : ∀ w, Calls Tryd.prog 37 #[.string (s.extract k m)] w fun e w' => e = .returned (.tuple #[.int .i64 vn, .bool vb]) ∧ w' = w) :
    Calls Tryd.prog 22 #[.string s, .int .i64 k] w fun e w' =>
      (vb = false ∧ e = .returned (.tuple #[tokV 0 0 ⟨#[]⟩ 0, .int .i64 11]) ∨ vb = true ∧ e = .returned (.tuple #[tokV 2 k (s.extract k m) vn, .int .i64 0])) ∧ Below w.heap.size w w' := by
  have h35k : ∀ w, Calls Tryd.prog 35 #[.int .u8 s[k].toNat] w fun e w' => e = .returned (.bool false) ∧ w' = w := fun w => by rw [← hl]; exact rLetter_any _ w (by omega) (u8_le _)
  have h36k : ∀ w, Calls Tryd.prog 36 #[.int .u8 s[k].toNat] w fun e w' => e = .returned (.bool true) ∧ w' = w := fun w => by rw [← hd]; exact rDigit_any _ w (by omega) (u8_le _)
  have HL : Hid (rowLen isDig (s.data.toList.drop k) = m - k) := hL
  clear hL hl hd
  go_enter Tryd.func22, Tryd.ntmps22
  go_wp2_with (first | (go_at_call 35; refine (h35k _).mono ?_; rintro e w' ⟨rfl, rfl⟩) | (go_at_call 36; refine (h36k _).mono ?_; rintro e w' ⟨rfl, rfl⟩))
  clear h35k h36k
  go_loop [6] (fun t => ∃ i : Nat, k ≤ i ∧ i ≤ m ∧ t = .int .i64 i) (fun t => s.size - (intOf t).toNat)
  case atStart => exact ⟨k, Nat.le_refl _, hkm, rfl⟩
  case round =>
    obtain ⟨i, hi1, hi2, rfl⟩ := hrel
    by_cases hlt : i < s.size
    · have h36 : ∀ b, digB s[i].toNat = b → ∀ w, Calls Tryd.prog 36 #[.int .u8 s[i].toNat] w fun e w' => e = .returned (.bool b) ∧ w' = w := fun b hb w => by rw [← hb]; exact rDigit_any _ w (by omega) (u8_le _)
      cases hb2 : digB s[i].toNat with
      | true =>
        have g36 := h36 true hb2
        have hit := row_hit_at HL.out hi1 hi2 hlt hb2
        clear h36 hb2 h37
        go_wp2_with (go_at_call 36; refine (g36 _).mono ?_; rintro e w' ⟨rfl, rfl⟩)
        go_round
        case rel => exact ⟨i + 1, by omega, hit, by go_num⟩
        case measure => simp [intOf]; omega
      | false =>
        have g36 := h36 false hb2
        have hend := row_miss_at HL.out hi1 hi2 hlt hb2
        clear h36 hb2
        obtain rfl : i = m := hend
        cases vb
        · go_wp2_with (first | (go_at_call 36; refine (g36 _).mono ?_; rintro e w' ⟨rfl, rfl⟩) | (go_at_call 37; refine (h37 _).mono ?_; rintro e w' ⟨rfl, rfl⟩))
          exact bodyPost_ret (v := .tuple #[tokV 0 0 ⟨#[]⟩ 0, .int .i64 11]) (by simp [results, Tryd.results22, go_sem]) rfl ⟨rfl, (Below.refl _ w).alloc (Nat.le_refl _) _⟩
        · go_wp2_with (first | (go_at_call 36; refine (g36 _).mono ?_; rintro e w' ⟨rfl, rfl⟩) | (go_at_call 37; refine (h37 _).mono ?_; rintro e w' ⟨rfl, rfl⟩))
          exact bodyPost_ret (v := .tuple #[tokV 2 k (s.extract k i) vn, .int .i64 0]) (by simp [results, Tryd.results22, go_sem]) rfl ⟨rfl, (Below.refl _ w).alloc (Nat.le_refl _) _⟩
    · have hend : i = m := by omega
      obtain rfl : i = m := hend
      cases vb
      · go_wp2_with (first | (go_at_call 37; refine (h37 _).mono ?_; rintro e w' ⟨rfl, rfl⟩))
        exact bodyPost_ret (v := .tuple #[tokV 0 0 ⟨#[]⟩ 0, .int .i64 11]) (by simp [results, Tryd.results22, go_sem]) rfl ⟨rfl, (Below.refl _ w).alloc (Nat.le_refl _) _⟩
      · go_wp2_with (first | (go_at_call 37; refine (h37 _).mono ?_; rintro e w' ⟨rfl, rfl⟩))
        exact bodyPost_ret (v := .tuple #[tokV 2 k (s.extract k i) vn, .int .i64 0]) (by simp [results, Tryd.results22, go_sem]) rfl ⟨rfl, (Below.refl _ w).alloc (Nat.le_refl _) _⟩

end Go.Proofs.YtdlddloggjckmaaDoor
