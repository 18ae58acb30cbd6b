/- Names of a module's functions. -/
import Derived.Test.YtfamomjgjamnoaaDoorSN
namespace Go.Proofs.YtfamomjgjamnoaaDoor
open Go.RowKit Go.Sort

theorem wordB_id {l : List UInt8} (h : wordB l = true) : idB l = true := by
  simp only [wordB, Bool.or_eq_true, beq_iff_eq] at h
  rcases h with (((((((((h | h) | h) | h) | h) | h) | h) | h) | h) | h) | h <;> subst h <;> decide
theorem name_or (l : List UInt8) : (nameB l || wordB l) = idB l := by
  cases hw : wordB l with
  | true => rw [wordB_id hw, Bool.or_true]
  | false =>
    rw [Bool.or_false]
    cases l with
    | nil => rfl
    | cons c r => simp only [nameB, idB, hw, Bool.not_false, Bool.and_true]
set_option maxHeartbeats 400000 in
theorem isName_any (s : ByteArray) (w : World) : Calls Tryd.prog 42 #[.string s] w fun e w' => e = .returned (.bool (idB s.data.toList)) ∧ w' = w := by
  have HN := Hid.mk' (name_any s)
  have HW := Hid.mk' (word_any s)
  have HI := Hid.mk' (name_or s.data.toList)
  generalize nameB s.data.toList = a at *
  generalize wordB s.data.toList = b at *
  generalize idB s.data.toList = c at *
  cases a
  · go_enter Tryd.func42, Tryd.ntmps42
    go_wp2_with (first | (go_at_call 62; refine (HN.out _).mono ?_; rintro e w1 ⟨rfl, rfl⟩) | (go_at_call 63; refine (HW.out _).mono ?_; rintro e w1 ⟨rfl, rfl⟩))
    go_ret
    exact ⟨ret_bool (by rw [← HI.out]; rfl), rfl⟩
  · go_enter Tryd.func42, Tryd.ntmps42
    go_wp2_with (first | (go_at_call 62; refine (HN.out _).mono ?_; rintro e w1 ⟨rfl, rfl⟩) | (go_at_call 63; refine (HW.out _).mono ?_; rintro e w1 ⟨rfl, rfl⟩))
    go_ret
    exact ⟨ret_bool (by rw [← HI.out]; rfl), rfl⟩

/-- What has been looked at so far is as it should be. -/
def idU (l : List UInt8) (k : Nat) : Prop := k ≤ rowLen isLod l ∧ ∀ c r, l = c :: r → 0 < k → isLet c = true
theorem idB_len {l : List UInt8} (h : l.length < 1 ∨ 16 < l.length) : idB l = false := by
  cases l with
  | nil => rfl
  | cons c r =>
    have : ¬ (c :: r).length ≤ 16 := by simp at h ⊢; omega
    rw [idB, decide_eq_false this]; rfl
theorem idB_end {l : List UInt8} (h0 : 0 < l.length) (h1 : l.length ≤ 16) (h : idU l l.length) : idB l = true := by
  cases l with
  | nil => simp at h0
  | cons c r =>
    have h2 := h.2 c r rfl h0
    have h3 : rowLen isLod (c :: r) = (c :: r).length := by have := h.1; have := rowLen_le isLod (c :: r); omega
    simp [idB, h2, h3]; simpa using h1
theorem idB_bad {l : List UInt8} {k : Nat} (hk : k < l.length) (h : idU l k) (hb : isLod l[k] = false) : idB l = false := by
  have := rowLen_miss isLod l k h.1 hk hb
  cases l with
  | nil => simp at hk
  | cons c r =>
    have h3 : ¬ rowLen isLod (c :: r) = (c :: r).length := by omega
    rw [idB, decide_eq_false h3, Bool.and_false]
theorem idB_digit {l : List UInt8} (hk : 0 < l.length) (hb : isLet l[0] = false) : idB l = false := by
  cases l with
  | nil => simp at hk
  | cons c r => have : isLet c = false := hb; simp [idB, this]
theorem idU_next {l : List UInt8} {k : Nat} (hk : k < l.length) (h : idU l k) (hb : isLod l[k] = true) (h0 : k = 0 → isLet l[k] = true) : idU l (k + 1) := by
  refine ⟨rowLen_hit isLod l k h.1 hk hb, fun c r e _ => ?_⟩
  subst e
  cases k with
  | zero => exact h0 rfl
  | succ k => exact h.2 c r rfl (by omega)
theorem let_yes {c : UInt8} (h1 : 97 ≤ c.toNat) (h2 : c.toNat ≤ 122) : isLet c = true := by simp [isLet, letB]; omega
theorem let_no {c : UInt8} (h : c.toNat < 97 ∨ 122 < c.toNat) : isLet c = false := by simp [isLet, letB]; omega
theorem lod_yes {c : UInt8} (h : (97 ≤ c.toNat ∧ c.toNat ≤ 122) ∨ (48 ≤ c.toNat ∧ c.toNat ≤ 57)) : isLod c = true := by simp [isLod, lodB, letB, digB]; omega
theorem lod_no {c : UInt8} (h : c.toNat < 48 ∨ (57 < c.toNat ∧ c.toNat < 97) ∨ 122 < c.toNat) : isLod c = false := by simp [isLod, lodB, letB, digB]; omega

set_option maxRecDepth 100000 in
set_option maxHeartbeats 4000000 in
theorem risName_any (s : ByteArray) (w : World) : Calls Tryd.prog 48 #[.string s] w fun e w' => e = .returned (.bool (idB s.data.toList)) ∧ w' = w := by
  have hlen := ba_len s
  by_cases hl : s.data.toList.length < 1 ∨ 16 < s.data.toList.length
  · rw [idB_len hl]
    rw [hlen] at hl
    clear hlen
    by_cases h0 : s.size < 1
    · go_enter Tryd.func48, Tryd.ntmps48
      go_wp2_with fail
      go_ret
      exact ⟨rfl, rfl⟩
    · have h1 : 16 < s.size := by omega
      clear hl
      go_enter Tryd.func48, Tryd.ntmps48
      go_wp2_with fail
      go_ret
      exact ⟨rfl, rfl⟩
  · have h0 : ¬ s.size < 1 := by omega
    have h1 : ¬ 16 < s.size := by omega
    have HL := Hid.mk' hlen
    clear hl hlen
    go_enter Tryd.func48, Tryd.ntmps48
    go_wp2_with fail
    go_loop [3] (fun i => ∃ k : Nat, k ≤ s.size ∧ i = .int .i64 k ∧ idU s.data.toList k) (fun i => s.size - (intOf i).toNat)
    case atStart => exact ⟨0, Nat.zero_le _, rfl, Nat.zero_le _, fun c r _ h => by omega⟩
    case round =>
      obtain ⟨k, hk, rfl, hu⟩ := hrel
      have HU := Hid.mk' hu
      clear hu
      by_cases hlt : k < s.size
      · have key : ∀ h : k < s.data.toList.length, s.data.toList[k] = s[k]'hlt := fun _ => rfl
        have hlt' : k < s.data.toList.length := by rw [HL.out]; exact hlt
        have F1 : Hid ((97 ≤ (s[k]'hlt).toNat ∧ (s[k]'hlt).toNat ≤ 122) → idU s.data.toList (k + 1)) := fun h => idU_next hlt' HU.out (by rw [key]; exact lod_yes (.inl h)) (fun _ => by rw [key]; exact let_yes h.1 h.2)
        have F2 : Hid ((48 ≤ (s[k]'hlt).toNat ∧ (s[k]'hlt).toNat ≤ 57) → k ≠ 0 → idU s.data.toList (k + 1)) := fun h h0 => idU_next hlt' HU.out (by rw [key]; exact lod_yes (.inr h)) (fun e => absurd e h0)
        have F3 : Hid ((48 ≤ (s[k]'hlt).toNat ∧ (s[k]'hlt).toNat ≤ 57) → k = 0 → idB s.data.toList = false) := fun h h0 => by subst h0; exact idB_digit hlt' (by rw [key]; exact let_no (.inl (by omega)))
        have F4 : Hid (((s[k]'hlt).toNat < 48 ∨ (57 < (s[k]'hlt).toNat ∧ (s[k]'hlt).toNat < 97) ∨ 122 < (s[k]'hlt).toNat) → idB s.data.toList = false) := fun h => idB_bad hlt' HU.out (by rw [key]; exact lod_no h)
        clear key hlt'
        have hsplit : (97 ≤ (s[k]'hlt).toNat ∧ (s[k]'hlt).toNat ≤ 122) ∨ (48 ≤ (s[k]'hlt).toNat ∧ (s[k]'hlt).toNat ≤ 57) ∨ (s[k]'hlt).toNat < 48 ∨ (57 < (s[k]'hlt).toNat ∧ (s[k]'hlt).toNat < 97) ∨ 122 < (s[k]'hlt).toNat := by omega
        rcases hsplit with ⟨c1, c2⟩ | ⟨c1, c2⟩ | c1 | ⟨c1, c2⟩ | c1
        · have HN := Hid.mk' (F1.out ⟨c1, c2⟩)
          have c3 : decide (((s[k]'hlt).toNat : Int) ≤ 57) = false := decide_eq_false (by omega)
          have c4 : decide (((s[k]'hlt).toNat : Int) ≤ 122) = true := decide_eq_true (by omega)
          by_cases hk0 : k = 0
          · have hk1 : ((k : Int) == 0) = true := by simp [hk0]
            clear hk0
            go_wp2_with fail
            go_round
            case rel => exact ⟨k + 1, by omega, by go_num, HN.out⟩
            case measure => simp [intOf]; omega
          · have hk1 : ((k : Int) == 0) = false := beq_no (by omega)
            go_wp2_with fail
            go_round
            case rel => exact ⟨k + 1, by omega, by go_num, HN.out⟩
            case measure => simp [intOf]; omega
        · by_cases hk0 : k = 0
          · have HE := Hid.mk' (F3.out ⟨c1, c2⟩ hk0)
            have hk1 : ((k : Int) == 0) = true := by simp [hk0]
            clear hk0
            go_wp2_with fail
            go_ret
            exact ⟨ret_bool (by rw [HE.out]), rfl⟩
          · have HN := Hid.mk' (F2.out ⟨c1, c2⟩ hk0)
            have hk1 : ((k : Int) == 0) = false := beq_no (by omega)
            go_wp2_with fail
            go_round
            case rel => exact ⟨k + 1, by omega, by go_num, HN.out⟩
            case measure => simp [intOf]; omega
        all_goals
          have HE := Hid.mk' (F4.out (by omega))
          go_wp2_with fail
          go_ret
          exact ⟨ret_bool (by rw [HE.out]), rfl⟩
      · have he : k = s.data.toList.length := by rw [HL.out]; omega
        have HE := Hid.mk' (idB_end (l := s.data.toList) (by rw [HL.out]; omega) (by rw [HL.out]; omega) (by rw [← he]; exact HU.out))
        clear he
        go_wp2_with fail
        go_ret
        exact ⟨ret_bool (by rw [HE.out]), rfl⟩
end Go.Proofs.YtfamomjgjamnoaaDoor
