/- scan.letter, digit, letterOrDigit, row, Word and Name, as package tree calls them: what each answers; the world stays. Names of a module's functions. Where a name stands. -/
import Derived.Test.YtfmkjdfidenfkaaDoorZaa
import Derived.Test.YtfmkjdfidenfkaaDoorCa
import Derived.Lib.Walk
namespace Go.Proofs.YtfmkjdfidenfkaaDoor
open Go.RowKit

set_option maxHeartbeats 400000 in
theorem letter_any (n : Int) (w : World) (h0 : 0 ≤ n) (h1 : n ≤ 255) :
    Calls Tryd.prog 104 #[.int .u8 n] w fun e w' => e = .returned (.bool (letB n)) ∧ w' = w := by
  by_cases h : 97 ≤ n
  · go_enter Tryd.func104, Tryd.ntmps104
    go_wp2
    go_ret
    exact ⟨ret_bool (by simp [letB, h]), rfl⟩
  · go_enter Tryd.func104, Tryd.ntmps104
    go_wp2
    go_ret
    exact ⟨ret_bool (by simp [letB]; omega), rfl⟩

set_option maxHeartbeats 400000 in
theorem digit_any (n : Int) (w : World) (h0 : 0 ≤ n) (h1 : n ≤ 255) :
    Calls Tryd.prog 113 #[.int .u8 n] w fun e w' => e = .returned (.bool (digB n)) ∧ w' = w := by
  by_cases h : 48 ≤ n
  · go_enter Tryd.func113, Tryd.ntmps113
    go_wp2
    go_ret
    exact ⟨ret_bool (by simp [digB, h]), rfl⟩
  · go_enter Tryd.func113, Tryd.ntmps113
    go_wp2
    go_ret
    exact ⟨ret_bool (by simp [digB]; omega), rfl⟩

set_option maxHeartbeats 400000 in
theorem lod_any (n : Int) (w : World) (h0 : 0 ≤ n) (h1 : n ≤ 255) :
    Calls Tryd.prog 106 #[.int .u8 n] w fun e w' => e = .returned (.bool (lodB n)) ∧ w' = w := by
  by_cases h : letB n = true
  · go_enter Tryd.func106, Tryd.ntmps106
    go_wp2_with (first | (go_at_call 104; refine (letter_any _ _ h0 h1).mono ?_; rintro e w' ⟨rfl, rfl⟩) | (go_at_call 113; refine (digit_any _ _ h0 h1).mono ?_; rintro e w' ⟨rfl, rfl⟩))
    go_ret
    exact ⟨ret_bool (by simp [lodB, h]), rfl⟩
  · have h' : letB n = false := by simpa using h
    go_enter Tryd.func106, Tryd.ntmps106
    go_wp2_with (first | (go_at_call 104; refine (letter_any _ _ h0 h1).mono ?_; rintro e w' ⟨rfl, rfl⟩) | (go_at_call 113; refine (digit_any _ _ h0 h1).mono ?_; rintro e w' ⟨rfl, rfl⟩))
    go_ret
    exact ⟨ret_bool (by simp [lodB, h']), rfl⟩

theorem u8_le (c : UInt8) : (c.toNat : Int) ≤ 255 := by have := c.toNat_lt; omega

set_option maxHeartbeats 400000 in
theorem row_lod (s : ByteArray) (w : World) (hs : s.size ≤ maxLen) :
    Calls Tryd.prog 105 #[.string s, .func (.func 106) #[] #[]] w fun e w' => e = .returned (.int .i64 (rowLen isLod s.data.toList : Nat)) ∧ w' = w := by
  unfold maxLen at hs
  have hle : rowLen isLod s.data.toList ≤ s.size := rowLen_le isLod s.data.toList
  go_enter Tryd.func105, Tryd.ntmps105
  go_wp2
  go_loop [5] (fun i => ∃ k : Nat, k ≤ rowLen isLod s.data.toList ∧ i = .int .i64 k) (fun i => s.size - (intOf i).toNat)
  case atStart => exact ⟨0, Nat.zero_le _, rfl⟩
  case round =>
    obtain ⟨k, hk, rfl⟩ := hrel
    by_cases hlt : k < s.size
    · by_cases hp : lodB s[k].toNat = true
      · have hnext := rowLen_hit isLod s.data.toList k hk hlt hp
        go_wp2_with (go_at_call 106; refine (lod_any _ _ (by omega) (u8_le _)).mono ?_; rintro e w' ⟨rfl, rfl⟩)
        go_round
        case rel => exact ⟨k + 1, hnext, by go_num⟩
        case measure => simp [intOf]; omega
      · have hp' : lodB s[k].toNat = false := by simpa using hp
        have hend := rowLen_miss isLod s.data.toList k hk hlt hp'
        have HE : Hid (rowLen isLod s.data.toList = k) := hend
        clear hend hp
        go_wp2_with (go_at_call 106; refine (lod_any _ _ (by omega) (u8_le _)).mono ?_; rintro e w' ⟨rfl, rfl⟩)
        go_ret
        exact ⟨ret_int (by rw [HE.out]), rfl⟩
    · have HE : Hid (rowLen isLod s.data.toList = k) := (by omega : rowLen isLod s.data.toList = k)
      go_wp2_with (go_at_call 106; refine (lod_any _ _ (by omega) (u8_le _)).mono ?_; rintro e w' ⟨rfl, rfl⟩)
      go_ret
      exact ⟨ret_int (by rw [HE.out]), rfl⟩
theorem ba_list (s : ByteArray) : s.toList = s.data.toList := ByteArray.toList_eq s
theorem ba_take (s : ByteArray) (n : Nat) : (s.extract 0 n).toList = s.data.toList.take n := by
  rw [ba_list]; simp

set_option maxHeartbeats 2000000 in
theorem word_any (s : ByteArray) (w : World) :
    Calls Tryd.prog 87 #[.string s] w fun e w' => e = .returned (.bool (wordB s.data.toList)) ∧ w' = w := by
  rw [← ba_list]
  go_enter Tryd.func87, Tryd.ntmps87
  go_wp2
  all_goals first
    | (exfalso; have hx : ∀ b : Bool, b = true → b = false → False := (fun b h1 h2 => by rw [h1] at h2; cases h2); exact hx _ (by assumption) (by assumption))
    | (go_ret; exact ⟨ret_bool (by simp only [wordB, *, Bool.or_true, Bool.true_or, Bool.or_false]), rfl⟩)


/-- May a text be a name? -/
def nameB (l : List UInt8) : Bool := match l with | [] => false | c :: _ => decide (l.length ≤ 16) && !wordB l && isLet c && decide (rowLen isLod l = l.length)

theorem isEmpty_of (s : ByteArray) (h : 0 < s.size) : s.toList.isEmpty = false := by
  rw [ba_list]
  cases hx : s.data.toList with
  | nil => have := ba_len s; rw [hx] at this; simp at this; omega
  | cons _ _ => rfl

set_option maxHeartbeats 1000000 in
theorem name_empty (w : World) : Calls Tryd.prog 86 #[.string ⟨#[]⟩] w fun e w' => e = .returned (.bool false) ∧ w' = w := by
  go_enter Tryd.func86, Tryd.ntmps86
  go_wp2
  go_ret
  exact ⟨rfl, rfl⟩

set_option maxHeartbeats 1000000 in
theorem name_long (s : ByteArray) (w : World) (he : s.toList.isEmpty = false) (h : 16 < (s.size : Int)) : Calls Tryd.prog 86 #[.string s] w fun e w' => e = .returned (.bool false) ∧ w' = w := by
  go_enter Tryd.func86, Tryd.ntmps86
  go_wp2
  go_ret
  exact ⟨rfl, rfl⟩

set_option maxHeartbeats 1000000 in
theorem name_word (s : ByteArray) (w : World) (he : s.toList.isEmpty = false) (h : ¬ 16 < (s.size : Int)) (hw : wordB s.data.toList = true) : Calls Tryd.prog 86 #[.string s] w fun e w' => e = .returned (.bool false) ∧ w' = w := by
  have h16 : ∀ w, Calls Tryd.prog 87 #[.string s] w fun e w' => e = .returned (.bool true) ∧ w' = w := by intro w; rw [← hw]; exact word_any _ w
  clear hw
  go_enter Tryd.func86, Tryd.ntmps86
  go_wp2_with (go_at_call 87; refine (h16 _).mono ?_; rintro e w' ⟨rfl, rfl⟩)
  go_ret
  exact ⟨rfl, rfl⟩

set_option maxHeartbeats 1000000 in
theorem name_digit (s : ByteArray) (w : World) (h0 : 0 < s.size) (he : s.toList.isEmpty = false) (h : ¬ 16 < (s.size : Int)) (hw : wordB s.data.toList = false) (hl : letB s[0].toNat = false) : Calls Tryd.prog 86 #[.string s] w fun e w' => e = .returned (.bool false) ∧ w' = w := by
  have h16 : ∀ w, Calls Tryd.prog 87 #[.string s] w fun e w' => e = .returned (.bool false) ∧ w' = w := by intro w; rw [← hw]; exact word_any _ w
  have h28 : ∀ w, Calls Tryd.prog 104 #[.int .u8 s[0].toNat] w fun e w' => e = .returned (.bool false) ∧ w' = w := fun w => by rw [← hl]; exact letter_any _ w (by omega) (u8_le _)
  clear hw hl
  go_enter Tryd.func86, Tryd.ntmps86
  go_wp2_with (first | (go_at_call 87; refine (h16 _).mono ?_; rintro e w' ⟨rfl, rfl⟩) | (go_at_call 104; refine (h28 _).mono ?_; rintro e w' ⟨rfl, rfl⟩))
  go_ret
  exact ⟨rfl, rfl⟩

set_option maxHeartbeats 1000000 in
theorem name_rest (s : ByteArray) (b : Bool) (w : World) (h0 : 0 < s.size) (he : s.toList.isEmpty = false) (h : ¬ 16 < (s.size : Int)) (hw : wordB s.data.toList = false) (hl : letB s[0].toNat = true)
    (hb : (((rowLen isLod s.data.toList : Nat) : Int) == (s.size : Int)) = b) : Calls Tryd.prog 86 #[.string s] w fun e w' => e = .returned (.bool b) ∧ w' = w := by
  have h16 : ∀ w, Calls Tryd.prog 87 #[.string s] w fun e w' => e = .returned (.bool false) ∧ w' = w := by intro w; rw [← hw]; exact word_any _ w
  have h28 : ∀ w, Calls Tryd.prog 104 #[.int .u8 s[0].toNat] w fun e w' => e = .returned (.bool true) ∧ w' = w := fun w => by rw [← hl]; exact letter_any _ w (by omega) (u8_le _)
  have h29 : ∀ w, Calls Tryd.prog 105 #[.string s, .func (.func 106) #[] #[]] w fun e w' => e = .returned (.int .i64 (rowLen isLod s.data.toList : Nat)) ∧ w' = w := fun w => row_lod s w (by unfold maxLen; omega)
  clear hw hl
  go_enter Tryd.func86, Tryd.ntmps86
  go_wp2_with (first | (go_at_call 87; refine (h16 _).mono ?_; rintro e w' ⟨rfl, rfl⟩) | (go_at_call 104; refine (h28 _).mono ?_; rintro e w' ⟨rfl, rfl⟩) | (go_at_call 105; refine (h29 _).mono ?_; rintro e w' ⟨rfl, rfl⟩))
  go_ret
  exact ⟨ret_bool (by simp), rfl⟩

theorem nameB_cons {l : List UInt8} (h : 0 < l.length) : nameB l = (decide (l.length ≤ 16) && !wordB l && isLet l[0] && decide (rowLen isLod l = l.length)) := by
  cases l with
  | nil => simp at h
  | cons c r => rfl

theorem name_any (s : ByteArray) (w : World) : Calls Tryd.prog 86 #[.string s] w fun e w' => e = .returned (.bool (nameB s.data.toList)) ∧ w' = w := by
  have hlen := ba_len s
  by_cases h0 : 0 < s.size
  · have he := isEmpty_of s h0
    have hl0 : 0 < s.data.toList.length := by omega
    rw [nameB_cons hl0]
    by_cases h16 : s.size ≤ 16
    · have d1 : decide (s.data.toList.length ≤ 16) = true := by simp only [decide_eq_true_eq]; omega
      rw [d1]
      cases hw : wordB s.data.toList with
      | true => exact name_word s w he (by omega) hw
      | false =>
        cases hl : letB s[0].toNat with
        | false => rw [show isLet s.data.toList[0] = false from hl]; simp only [Bool.and_false, Bool.false_and]; exact name_digit s w h0 he (by omega) hw hl
        | true =>
          rw [show isLet s.data.toList[0] = true from hl]; simp only [Bool.not_false, Bool.and_true, Bool.true_and]
          refine name_rest s _ w h0 he (by omega) hw hl ?_
          rw [hlen, Bool.eq_iff_iff]; simp only [beq_iff_eq, decide_eq_true_eq]; omega
    · have d1 : decide (s.data.toList.length ≤ 16) = false := by simp only [decide_eq_false_iff_not]; omega
      rw [d1]; simp only [Bool.false_and]
      exact name_long s w he (by omega)
  · have : s = ⟨#[]⟩ := by
      apply ByteArray.ext; apply Array.eq_empty_of_size_eq_zero; show s.size = 0; omega
    rw [this]; exact name_empty w

end Go.Proofs.YtfmkjdfidenfkaaDoor
namespace Go.Proofs.YtfmkjdfidenfkaaDoor
open Go.RowKit Go.Sort

theorem wordB_id {l : List UInt8} (h : wordB l = true) : idB l = true := by
  simp only [wordB, Bool.or_eq_true, beq_iff_eq] at h
  rcases h with (((((((((h | h) | h) | h) | h) | h) | h) | h) | h) | h) | h <;> subst h <;> decide
theorem name_or (l : List UInt8) : (nameB l || wordB l) = idB l := by
  cases hw : wordB l with
  | true => rw [wordB_id hw, Bool.or_true]
  | false =>
    rw [Bool.or_false]
    cases l with
    | nil => rfl
    | cons c r => simp only [nameB, idB, hw, Bool.not_false, Bool.and_true]
set_option maxHeartbeats 400000 in
theorem isName_any (s : ByteArray) (w : World) : Calls Tryd.prog 71 #[.string s] w fun e w' => e = .returned (.bool (idB s.data.toList)) ∧ w' = w := by
  have HN := Hid.mk' (name_any s)
  have HW := Hid.mk' (word_any s)
  have HI := Hid.mk' (name_or s.data.toList)
  generalize nameB s.data.toList = a at *
  generalize wordB s.data.toList = b at *
  generalize idB s.data.toList = c at *
  cases a
  · go_enter Tryd.func71, Tryd.ntmps71
    go_wp2_with (first | (go_at_call 86; refine (HN.out _).mono ?_; rintro e w1 ⟨rfl, rfl⟩) | (go_at_call 87; refine (HW.out _).mono ?_; rintro e w1 ⟨rfl, rfl⟩))
    go_ret
    exact ⟨ret_bool (by rw [← HI.out]; rfl), rfl⟩
  · go_enter Tryd.func71, Tryd.ntmps71
    go_wp2_with (first | (go_at_call 86; refine (HN.out _).mono ?_; rintro e w1 ⟨rfl, rfl⟩) | (go_at_call 87; refine (HW.out _).mono ?_; rintro e w1 ⟨rfl, rfl⟩))
    go_ret
    exact ⟨ret_bool (by rw [← HI.out]; rfl), rfl⟩

/-- What has been looked at so far is as it should be. -/
def idU (l : List UInt8) (k : Nat) : Prop := k ≤ rowLen isLod l ∧ ∀ c r, l = c :: r → 0 < k → isLet c = true
theorem idB_len {l : List UInt8} (h : l.length < 1 ∨ 16 < l.length) : idB l = false := by
  cases l with
  | nil => rfl
  | cons c r =>
    have : ¬ (c :: r).length ≤ 16 := by simp at h ⊢; omega
    rw [idB, decide_eq_false this]; rfl
theorem idB_end {l : List UInt8} (h0 : 0 < l.length) (h1 : l.length ≤ 16) (h : idU l l.length) : idB l = true := by
  cases l with
  | nil => simp at h0
  | cons c r =>
    have h2 := h.2 c r rfl h0
    have h3 : rowLen isLod (c :: r) = (c :: r).length := by have := h.1; have := rowLen_le isLod (c :: r); omega
    simp [idB, h2, h3]; simpa using h1
theorem idB_bad {l : List UInt8} {k : Nat} (hk : k < l.length) (h : idU l k) (hb : isLod l[k] = false) : idB l = false := by
  have := rowLen_miss isLod l k h.1 hk hb
  cases l with
  | nil => simp at hk
  | cons c r =>
    have h3 : ¬ rowLen isLod (c :: r) = (c :: r).length := by omega
    rw [idB, decide_eq_false h3, Bool.and_false]
theorem idB_digit {l : List UInt8} (hk : 0 < l.length) (hb : isLet l[0] = false) : idB l = false := by
  cases l with
  | nil => simp at hk
  | cons c r => have : isLet c = false := hb; simp [idB, this]
theorem idU_next {l : List UInt8} {k : Nat} (hk : k < l.length) (h : idU l k) (hb : isLod l[k] = true) (h0 : k = 0 → isLet l[k] = true) : idU l (k + 1) := by
  refine ⟨rowLen_hit isLod l k h.1 hk hb, fun c r e _ => ?_⟩
  subst e
  cases k with
  | zero => exact h0 rfl
  | succ k => exact h.2 c r rfl (by omega)
theorem let_yes {c : UInt8} (h1 : 97 ≤ c.toNat) (h2 : c.toNat ≤ 122) : isLet c = true := by simp [isLet, letB]; omega
theorem let_no {c : UInt8} (h : c.toNat < 97 ∨ 122 < c.toNat) : isLet c = false := by simp [isLet, letB]; omega
theorem lod_yes {c : UInt8} (h : (97 ≤ c.toNat ∧ c.toNat ≤ 122) ∨ (48 ≤ c.toNat ∧ c.toNat ≤ 57)) : isLod c = true := by simp [isLod, lodB, letB, digB]; omega
theorem lod_no {c : UInt8} (h : c.toNat < 48 ∨ (57 < c.toNat ∧ c.toNat < 97) ∨ 122 < c.toNat) : isLod c = false := by simp [isLod, lodB, letB, digB]; omega

set_option maxRecDepth 100000 in
set_option maxHeartbeats 4000000 in
theorem risName_any (s : ByteArray) (w : World) : Calls Tryd.prog 59 #[.string s] w fun e w' => e = .returned (.bool (idB s.data.toList)) ∧ w' = w := by
  have hlen := ba_len s
  by_cases hl : s.data.toList.length < 1 ∨ 16 < s.data.toList.length
  · rw [idB_len hl]
    rw [hlen] at hl
    clear hlen
    by_cases h0 : s.size < 1
    · go_enter Tryd.func59, Tryd.ntmps59
      go_wp2_with fail
      go_ret
      exact ⟨rfl, rfl⟩
    · have h1 : 16 < s.size := by omega
      clear hl
      go_enter Tryd.func59, Tryd.ntmps59
      go_wp2_with fail
      go_ret
      exact ⟨rfl, rfl⟩
  · have h0 : ¬ s.size < 1 := by omega
    have h1 : ¬ 16 < s.size := by omega
    have HL := Hid.mk' hlen
    clear hl hlen
    go_enter Tryd.func59, Tryd.ntmps59
    go_wp2_with fail
    go_loop [3] (fun i => ∃ k : Nat, k ≤ s.size ∧ i = .int .i64 k ∧ idU s.data.toList k) (fun i => s.size - (intOf i).toNat)
    case atStart => exact ⟨0, Nat.zero_le _, rfl, Nat.zero_le _, fun c r _ h => by omega⟩
    case round =>
      obtain ⟨k, hk, rfl, hu⟩ := hrel
      have HU := Hid.mk' hu
      clear hu
      by_cases hlt : k < s.size
      · have key : ∀ h : k < s.data.toList.length, s.data.toList[k] = s[k]'hlt := fun _ => rfl
        have hlt' : k < s.data.toList.length := by rw [HL.out]; exact hlt
        have F1 : Hid ((97 ≤ (s[k]'hlt).toNat ∧ (s[k]'hlt).toNat ≤ 122) → idU s.data.toList (k + 1)) := fun h => idU_next hlt' HU.out (by rw [key]; exact lod_yes (.inl h)) (fun _ => by rw [key]; exact let_yes h.1 h.2)
        have F2 : Hid ((48 ≤ (s[k]'hlt).toNat ∧ (s[k]'hlt).toNat ≤ 57) → k ≠ 0 → idU s.data.toList (k + 1)) := fun h h0 => idU_next hlt' HU.out (by rw [key]; exact lod_yes (.inr h)) (fun e => absurd e h0)
        have F3 : Hid ((48 ≤ (s[k]'hlt).toNat ∧ (s[k]'hlt).toNat ≤ 57) → k = 0 → idB s.data.toList = false) := fun h h0 => by subst h0; exact idB_digit hlt' (by rw [key]; exact let_no (.inl (by omega)))
        have F4 : Hid (((s[k]'hlt).toNat < 48 ∨ (57 < (s[k]'hlt).toNat ∧ (s[k]'hlt).toNat < 97) ∨ 122 < (s[k]'hlt).toNat) → idB s.data.toList = false) := fun h => idB_bad hlt' HU.out (by rw [key]; exact lod_no h)
        clear key hlt'
        have hsplit : (97 ≤ (s[k]'hlt).toNat ∧ (s[k]'hlt).toNat ≤ 122) ∨ (48 ≤ (s[k]'hlt).toNat ∧ (s[k]'hlt).toNat ≤ 57) ∨ (s[k]'hlt).toNat < 48 ∨ (57 < (s[k]'hlt).toNat ∧ (s[k]'hlt).toNat < 97) ∨ 122 < (s[k]'hlt).toNat := by omega
        rcases hsplit with ⟨c1, c2⟩ | ⟨c1, c2⟩ | c1 | ⟨c1, c2⟩ | c1
        · have HN := Hid.mk' (F1.out ⟨c1, c2⟩)
          have c3 : decide (((s[k]'hlt).toNat : Int) ≤ 57) = false := decide_eq_false (by omega)
          have c4 : decide (((s[k]'hlt).toNat : Int) ≤ 122) = true := decide_eq_true (by omega)
          by_cases hk0 : k = 0
          · have hk1 : ((k : Int) == 0) = true := by simp [hk0]
            clear hk0
            go_wp2_with fail
            go_round
            case rel => exact ⟨k + 1, by omega, by go_num, HN.out⟩
            case measure => simp [intOf]; omega
          · have hk1 : ((k : Int) == 0) = false := beq_no (by omega)
            go_wp2_with fail
            go_round
            case rel => exact ⟨k + 1, by omega, by go_num, HN.out⟩
            case measure => simp [intOf]; omega
        · by_cases hk0 : k = 0
          · have HE := Hid.mk' (F3.out ⟨c1, c2⟩ hk0)
            have hk1 : ((k : Int) == 0) = true := by simp [hk0]
            clear hk0
            go_wp2_with fail
            go_ret
            exact ⟨ret_bool (by rw [HE.out]), rfl⟩
          · have HN := Hid.mk' (F2.out ⟨c1, c2⟩ hk0)
            have hk1 : ((k : Int) == 0) = false := beq_no (by omega)
            go_wp2_with fail
            go_round
            case rel => exact ⟨k + 1, by omega, by go_num, HN.out⟩
            case measure => simp [intOf]; omega
        all_goals
          have HE := Hid.mk' (F4.out (by omega))
          go_wp2_with fail
          go_ret
          exact ⟨ret_bool (by rw [HE.out]), rfl⟩
      · have he : k = s.data.toList.length := by rw [HL.out]; omega
        have HE := Hid.mk' (idB_end (l := s.data.toList) (by rw [HL.out]; omega) (by rw [HL.out]; omega) (by rw [← he]; exact HU.out))
        clear he
        go_wp2_with fail
        go_ret
        exact ⟨ret_bool (by rw [HE.out]), rfl⟩
end Go.Proofs.YtfmkjdfidenfkaaDoor
namespace Go.Proofs.YtfmkjdfidenfkaaDoor
open Go.RowKit Go.Sort

set_option maxRecDepth 100000 in
set_option maxHeartbeats 2000000 in
theorem find_any (m : Mo) (s : ByteArray) (w : World) (hm : Fns w m.fa m.funcs) : Calls Tryd.prog 72 #[m.val, .string s] w fun e w' => e = .returned (.int .i64 (fndN m.funcs s 0)) ∧ Below w.heap.size w w' := by
  have hb0 := Below.one (Below.refl _ w) (.cells #[.slice m.ta m.ths.length m.tc, .slice m.fa m.funcs.length m.fc] 25)
  have hc := hm.1
  have HM := Hid.mk' hm
  clear hm
  unfold Mo.val
  obtain ⟨_, _, _, a, c, l⟩ := m
  simp only at HM hc hb0 ⊢
  go_enter Tryd.func72, Tryd.ntmps72
  go_wp2_with fail
  go_loopw [10] (fun t10 wr => ∃ (j : Nat), j ≤ l.length ∧ t10 = .int .i64 j ∧ fndN (l.drop j) s j = fndN l s 0 ∧ Below w.heap.size w wr) (fun t10 _ => l.length - (intOf t10).toNat)
  case atStart => exact ⟨0, Nat.zero_le _, rfl, rfl, hb0⟩
  case round =>
    obtain ⟨j, hj, rfl, hcnt, hb⟩ := hrel
    have HC : Hid (fndN (l.drop j) s j = fndN l s 0) := hcnt
    clear hcnt
    by_cases hlt : j < l.length
    · obtain ⟨b, o, rfl, c0, c1, c2, c3, c4⟩ := fns_at (HM.out.stay hb) hlt
      have hli : (j : Int) < (l.length : Int) := by omega
      have HD := Hid.mk' (fndN_drop (s := s) hlt)
      generalize l[j] = f at *
      cases ev : (f.name.toList == s.toList)
      · go_wp2_with fail
        go_roundw
        case rel => exact ⟨j + 1, by omega, by go_num, by rw [← HC.out, HD.out, ev]; rfl, Below.one hb _⟩
        case measure => simp [intOf]; omega
      · go_wp2_with fail
        go_ret
        exact ⟨ret_int (by rw [← HC.out, HD.out, ev]; rfl), Below.one hb _⟩
    · go_wp2_with fail
      go_ret
      exact ⟨ret_int (by rw [← HC.out, List.drop_eq_nil_of_le (by omega)]; rfl), hb⟩
end Go.Proofs.YtfmkjdfidenfkaaDoor
