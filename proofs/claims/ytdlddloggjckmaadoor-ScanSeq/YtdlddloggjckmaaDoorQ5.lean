/- The reference's one, at a letter and at a digit: the token there, or what is wrong. -/
import Derived.Test.YtdlddloggjckmaaDoorQ3
import Derived.Test.YtdlddloggjckmaaDoorQ4
import Derived.Test.YtdlddloggjckmaaDoorG
namespace Go.Proofs.YtdlddloggjckmaaDoor
open Go.RowKit

theorem ext_ext (s : ByteArray) (k L : Nat) (h : k + L ≤ s.size) : (s.extract k s.size).extract 0 L = s.extract k (k + L) := by
  rw [ByteArray.extract_extract]
  congr 1
  omega
theorem ext_mid (s : ByteArray) (k m : Nat) (h : m ≤ s.size) : (s.extract k m).size = m - k := by simp; omega
theorem ext_mid_list (s : ByteArray) (k m : Nat) : (s.extract k m).data.toList = (s.data.toList.drop k).take (m - k) := by simp
theorem row_hit_at {p : UInt8 → Bool} {s : ByteArray} {k i m : Nat} (hL : rowLen p (s.data.toList.drop k) = m - k) (h1 : k ≤ i) (h2 : i ≤ m) (hlt : i < s.size) (hp : p s[i] = true) : i + 1 ≤ m := by
  obtain ⟨j, rfl⟩ : ∃ j, i = k + j := ⟨i - k, by omega⟩
  have hj : j < (s.data.toList.drop k).length := by rw [size_drop]; omega
  have := rowLen_hit p (s.data.toList.drop k) j (by omega) hj (by rw [List.getElem_drop]; exact hp)
  omega
theorem row_miss_at {p : UInt8 → Bool} {s : ByteArray} {k i m : Nat} (hL : rowLen p (s.data.toList.drop k) = m - k) (h1 : k ≤ i) (h2 : i ≤ m) (hlt : i < s.size) (hp : p s[i] = false) : i = m := by
  obtain ⟨j, rfl⟩ : ∃ j, i = k + j := ⟨i - k, by omega⟩
  have hj : j < (s.data.toList.drop k).length := by rw [size_drop]; omega
  have := rowLen_miss p (s.data.toList.drop k) j (by omega) hj (by rw [List.getElem_drop]; exact hp)
  omega

/-- What one answers: the item's token, or a zero token and the error. -/
def atOf (x : It) : Int := if x.err = 0 then (x.at_ : Nat) else 0
def OneOut (x : It) (w : World) (e : Ending) (w' : World) : Prop := e = .returned (.tuple #[tokV x.kind (atOf x) x.text x.n, .int .i64 x.err]) ∧ Below w.heap.size w w'

theorem below_box2 {w w' : World} {o o' : Obj} (hb : Below ((w.alloc o).alloc o').heap.size ((w.alloc o).alloc o') w') : Below w.heap.size w w' :=
  (((Below.refl _ w).alloc (Nat.le_refl _) o).alloc (by simp) o').trans (hb.mono (by simp; omega))

set_option maxRecDepth 100000 in
set_option maxHeartbeats 4000000 in
theorem one_let (s : ByteArray) (k m : Nat) (w : World) (hs : s.size ≤ 281474976710656) (hk : k < s.size) (hl : letB s[k].toNat = true) (hkm : k ≤ m) (hms : m ≤ s.size) (hL : rowLen isLod (s.data.toList.drop k) = m - k) :
    Calls Tryd.prog 22 #[.string s, .int .i64 k] w fun e w' =>
      (16 < m - k ∧ e = .returned (.tuple #[tokV 0 0 ⟨#[]⟩ 0, .int .i64 4]) ∨ m - k ≤ 16 ∧ (wordB (s.extract k m).data.toList = true ∧ e = .returned (.tuple #[tokV 3 k (s.extract k m) 0, .int .i64 0]) ∨ wordB (s.extract k m).data.toList = false ∧ e = .returned (.tuple #[tokV 1 k (s.extract k m) 0, .int .i64 0]))) ∧ Below w.heap.size w w' := by
  have h35k : ∀ w, Calls Tryd.prog 35 #[.int .u8 s[k].toNat] w fun e w' => e = .returned (.bool true) ∧ w' = w := fun w => by rw [← hl]; exact rLetter_any _ w (by omega) (u8_le _)
  have HL : Hid (rowLen isLod (s.data.toList.drop k) = m - k) := hL
  clear hL hl
  go_enter Tryd.func22, Tryd.ntmps22
  go_wp2_with (go_at_call 35; refine (h35k _).mono ?_; rintro e w' ⟨rfl, rfl⟩)
  clear h35k
  go_loop [6] (fun t => ∃ i : Nat, k ≤ i ∧ i ≤ m ∧ t = .int .i64 i) (fun t => s.size - (intOf t).toNat)
  case atStart => exact ⟨k, Nat.le_refl _, hkm, rfl⟩
  case round =>
    obtain ⟨i, hi1, hi2, rfl⟩ := hrel
    by_cases hlt : i < s.size
    · have h35 : ∀ b, letB s[i].toNat = b → ∀ w, Calls Tryd.prog 35 #[.int .u8 s[i].toNat] w fun e w' => e = .returned (.bool b) ∧ w' = w := fun b hb w => by rw [← hb]; exact rLetter_any _ w (by omega) (u8_le _)
      have h36 : ∀ b, digB s[i].toNat = b → ∀ w, Calls Tryd.prog 36 #[.int .u8 s[i].toNat] w fun e w' => e = .returned (.bool b) ∧ w' = w := fun b hb w => by rw [← hb]; exact rDigit_any _ w (by omega) (u8_le _)
      cases hb1 : letB s[i].toNat with
      | true =>
        have g35 := h35 true hb1
        have hit := row_hit_at HL.out hi1 hi2 hlt (by show (letB _ || digB _) = true; rw [hb1]; rfl)
        clear h35 h36 hb1
        go_wp2_with (go_at_call 35; refine (g35 _).mono ?_; rintro e w' ⟨rfl, rfl⟩)
        go_round
        case rel => exact ⟨i + 1, by omega, hit, by go_num⟩
        case measure => simp [intOf]; omega
      | false =>
        have g35 := h35 false hb1
        cases hb2 : digB s[i].toNat with
        | true =>
          have g36 := h36 true hb2
          have hit := row_hit_at HL.out hi1 hi2 hlt (by show (letB _ || digB _) = true; rw [hb2]; simp)
          clear h35 h36 hb1 hb2
          go_wp2_with (first | (go_at_call 35; refine (g35 _).mono ?_; rintro e w' ⟨rfl, rfl⟩) | (go_at_call 36; refine (g36 _).mono ?_; rintro e w' ⟨rfl, rfl⟩))
          go_round
          case rel => exact ⟨i + 1, by omega, hit, by go_num⟩
          case measure => simp [intOf]; omega
        | false =>
          have g36 := h36 false hb2
          have hend := row_miss_at HL.out hi1 hi2 hlt (by show (letB _ || digB _) = false; rw [hb1, hb2]; rfl)
          clear h35 h36 hb1 hb2
          obtain rfl : i = m := hend
          by_cases h16 : 16 < (i : Int) - (k : Int)
          · go_wp2_with (first | (go_at_call 35; refine (g35 _).mono ?_; rintro e w' ⟨rfl, rfl⟩) | (go_at_call 36; refine (g36 _).mono ?_; rintro e w' ⟨rfl, rfl⟩))
            exact bodyPost_ret (v := .tuple #[tokV 0 0 ⟨#[]⟩ 0, .int .i64 4]) (by simp [results, Tryd.results22, go_sem]) rfl ⟨.inl ⟨by omega, rfl⟩, (Below.refl _ w).alloc (Nat.le_refl _) _⟩
          · have h17 := rWord_any (s.extract k i)
            cases hw : wordB (s.extract k i).data.toList with
            | true =>
              rw [hw] at h17
              go_wp2_with (first | (go_at_call 35; refine (g35 _).mono ?_; rintro e w' ⟨rfl, rfl⟩) | (go_at_call 36; refine (g36 _).mono ?_; rintro e w' ⟨rfl, rfl⟩))
              refine (h17 _).mono ?_
              rintro e w3 ⟨rfl, hb3⟩
              obtain ⟨hc, hf⟩ := bcell hb3
              have hA := fun o => hc w.heap.size o (by simp; omega)
              have hB := fun o => hc (w.heap.size + 1) o (by simp)
              have fA := fun o => hf w.heap.size o (by simp; omega)
              have fB := fun o => hf (w.heap.size + 1) o (by simp)
              clear hc hf
              go_wp2_with fail
              exact bodyPost_ret (v := .tuple #[tokV 3 k (s.extract k i) 0, .int .i64 0]) (by simp [results, Tryd.results22, go_sem, hA]) rfl ⟨.inr ⟨by omega, .inl ⟨hw, rfl⟩⟩, below_set4 ((below_box2 hb3).setCell (p := ⟨w.heap.size + 1, 0, none⟩) (by show w.heap.size ≤ w.heap.size + 1; omega) _) (Nat.le_refl _) _ _ _ _⟩
            | false =>
              rw [hw] at h17
              go_wp2_with (first | (go_at_call 35; refine (g35 _).mono ?_; rintro e w' ⟨rfl, rfl⟩) | (go_at_call 36; refine (g36 _).mono ?_; rintro e w' ⟨rfl, rfl⟩))
              refine (h17 _).mono ?_
              rintro e w3 ⟨rfl, hb3⟩
              obtain ⟨hc, hf⟩ := bcell hb3
              have hA := fun o => hc w.heap.size o (by simp; omega)
              have hB := fun o => hc (w.heap.size + 1) o (by simp)
              have fA := fun o => hf w.heap.size o (by simp; omega)
              have fB := fun o => hf (w.heap.size + 1) o (by simp)
              clear hc hf
              go_wp2_with fail
              exact bodyPost_ret (v := .tuple #[tokV 1 k (s.extract k i) 0, .int .i64 0]) (by simp [results, Tryd.results22, go_sem, hA]) rfl ⟨.inr ⟨by omega, .inr ⟨hw, rfl⟩⟩, below_set4 (below_box2 hb3) (Nat.le_refl _) _ _ _ _⟩
    · have hend : i = m := by omega
      obtain rfl : i = m := hend
      by_cases h16 : 16 < (i : Int) - (k : Int)
      · go_wp2_with fail
        exact bodyPost_ret (v := .tuple #[tokV 0 0 ⟨#[]⟩ 0, .int .i64 4]) (by simp [results, Tryd.results22, go_sem]) rfl ⟨.inl ⟨by omega, rfl⟩, (Below.refl _ w).alloc (Nat.le_refl _) _⟩
      · have h17 := rWord_any (s.extract k i)
        cases hw : wordB (s.extract k i).data.toList with
        | true =>
          rw [hw] at h17
          go_wp2_with fail
          refine (h17 _).mono ?_
          rintro e w3 ⟨rfl, hb3⟩
          obtain ⟨hc, hf⟩ := bcell hb3
          have hA := fun o => hc w.heap.size o (by simp; omega)
          have hB := fun o => hc (w.heap.size + 1) o (by simp)
          have fA := fun o => hf w.heap.size o (by simp; omega)
          have fB := fun o => hf (w.heap.size + 1) o (by simp)
          clear hc hf
          go_wp2_with fail
          exact bodyPost_ret (v := .tuple #[tokV 3 k (s.extract k i) 0, .int .i64 0]) (by simp [results, Tryd.results22, go_sem, hA]) rfl ⟨.inr ⟨by omega, .inl ⟨hw, rfl⟩⟩, below_set4 ((below_box2 hb3).setCell (p := ⟨w.heap.size + 1, 0, none⟩) (by show w.heap.size ≤ w.heap.size + 1; omega) _) (Nat.le_refl _) _ _ _ _⟩
        | false =>
          rw [hw] at h17
          go_wp2_with fail
          refine (h17 _).mono ?_
          rintro e w3 ⟨rfl, hb3⟩
          obtain ⟨hc, hf⟩ := bcell hb3
          have hA := fun o => hc w.heap.size o (by simp; omega)
          have hB := fun o => hc (w.heap.size + 1) o (by simp)
          have fA := fun o => hf w.heap.size o (by simp; omega)
          have fB := fun o => hf (w.heap.size + 1) o (by simp)
          clear hc hf
          go_wp2_with fail
          exact bodyPost_ret (v := .tuple #[tokV 1 k (s.extract k i) 0, .int .i64 0]) (by simp [results, Tryd.results22, go_sem, hA]) rfl ⟨.inr ⟨by omega, .inr ⟨hw, rfl⟩⟩, below_set4 (below_box2 hb3) (Nat.le_refl _) _ _ _ _⟩

end Go.Proofs.YtdlddloggjckmaaDoor
