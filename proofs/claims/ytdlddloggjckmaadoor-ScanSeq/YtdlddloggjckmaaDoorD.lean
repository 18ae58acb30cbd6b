/- scan.takeLetters, takeDigits, take: what each answers; nothing that lay has turned. -/
import Derived.Test.YtdlddloggjckmaaDoorC
namespace Go.Proofs.YtdlddloggjckmaaDoor
open Go.RowKit

theorem ext_list (s : ByteArray) (k : Nat) : (s.extract 0 k).data.toList = s.data.toList.take k := by
  rw [← ba_list]; exact ba_take s k

set_option maxHeartbeats 400000 in
theorem takeLetters_long (s : ByteArray) (k : Nat) (w : World) (hm : s.size ≤ maxLen) (hk : k ≤ s.size) (he : rowLen isLod s.data.toList = k) (hl : 16 < k) :
    Calls Tryd.prog 41 #[.string s] w fun e w' => e = .returned (.tuple #[tokV 0 0 ⟨#[]⟩ 0, .int .i64 4]) ∧ Below w.heap.size w w' := by
  have h29 : ∀ w, Calls Tryd.prog 29 #[.string s, .func (.func 30) #[] #[]] w fun e w' => e = .returned (.int .i64 (k : Nat)) ∧ w' = w := by intro w; rw [← he]; exact row_lod s w hm
  clear he
  have hsz : (s.extract 0 k).size = k := ext_size s k hk
  have hz : 16 < (k : Int) := by omega
  go_enter Tryd.func41, Tryd.ntmps41
  go_wp2_with (first | (go_at_call 29; refine (h29 _).mono ?_; rintro e w' ⟨rfl, rfl⟩))
  exact bodyPost_ret (v := .tuple #[tokV 0 0 ⟨#[]⟩ 0, .int .i64 4]) (by simp [results, Tryd.results41, go_sem]) rfl ⟨rfl, (Below.refl _ w).alloc (Nat.le_refl _) _⟩

set_option maxHeartbeats 400000 in
theorem takeLetters_word (s : ByteArray) (k : Nat) (w : World) (hm : s.size ≤ maxLen) (hk : k ≤ s.size) (he : rowLen isLod s.data.toList = k) (hl : k ≤ 16) (hw : wordB (s.extract 0 k).data.toList = true) :
    Calls Tryd.prog 41 #[.string s] w fun e w' => e = .returned (.tuple #[tokV 3 0 (s.extract 0 k) 0, .int .i64 0]) ∧ Below w.heap.size w w' := by
  have h29 : ∀ w, Calls Tryd.prog 29 #[.string s, .func (.func 30) #[] #[]] w fun e w' => e = .returned (.int .i64 (k : Nat)) ∧ w' = w := by intro w; rw [← he]; exact row_lod s w hm
  have h16 : ∀ w, Calls Tryd.prog 16 #[.string (s.extract 0 k)] w fun e w' => e = .returned (.bool true) ∧ w' = w := by intro w; rw [← hw]; exact word_any _ w
  have h44 : ∀ w, Calls Tryd.prog 44 #[.int .i64 3, .string (s.extract 0 k), .int .i64 0] w fun e w' => e = .returned (tokV 3 0 (s.extract 0 k) 0) ∧ Below w.heap.size w w' :=
    fun w => token_any 3 _ 0 w (by rw [ext_size s k hk]; omega)
  clear he hw
  have hsz : (s.extract 0 k).size = k := ext_size s k hk
  have hz : ¬ (16 < (k : Int)) := by omega
  go_enter Tryd.func41, Tryd.ntmps41
  go_wp2_with (first | (go_at_call 29; refine (h29 _).mono ?_; rintro e w' ⟨rfl, rfl⟩) | (go_at_call 16; refine (h16 _).mono ?_; rintro e w' ⟨rfl, rfl⟩) | (go_at_call 44; refine (h44 _).mono ?_; rintro e w' ⟨rfl, hb⟩; obtain ⟨hc, hf⟩ := bcell hb))
  exact bodyPost_ret (v := .tuple #[tokV 3 0 (s.extract 0 k) 0, .int .i64 0]) (by simp [results, Tryd.results41, go_sem, hc]) rfl ⟨rfl, below_set4 (below_box hb) (Nat.le_refl _) _ _ _ _⟩

set_option maxHeartbeats 400000 in
theorem takeLetters_name (s : ByteArray) (k : Nat) (w : World) (hm : s.size ≤ maxLen) (hk : k ≤ s.size) (he : rowLen isLod s.data.toList = k) (hl : k ≤ 16) (hw : wordB (s.extract 0 k).data.toList = false) :
    Calls Tryd.prog 41 #[.string s] w fun e w' => e = .returned (.tuple #[tokV 1 0 (s.extract 0 k) 0, .int .i64 0]) ∧ Below w.heap.size w w' := by
  have h29 : ∀ w, Calls Tryd.prog 29 #[.string s, .func (.func 30) #[] #[]] w fun e w' => e = .returned (.int .i64 (k : Nat)) ∧ w' = w := by intro w; rw [← he]; exact row_lod s w hm
  have h16 : ∀ w, Calls Tryd.prog 16 #[.string (s.extract 0 k)] w fun e w' => e = .returned (.bool false) ∧ w' = w := by intro w; rw [← hw]; exact word_any _ w
  have h44 : ∀ w, Calls Tryd.prog 44 #[.int .i64 1, .string (s.extract 0 k), .int .i64 0] w fun e w' => e = .returned (tokV 1 0 (s.extract 0 k) 0) ∧ Below w.heap.size w w' :=
    fun w => token_any 1 _ 0 w (by rw [ext_size s k hk]; omega)
  clear he hw
  have hsz : (s.extract 0 k).size = k := ext_size s k hk
  have hz : ¬ (16 < (k : Int)) := by omega
  go_enter Tryd.func41, Tryd.ntmps41
  go_wp2_with (first | (go_at_call 29; refine (h29 _).mono ?_; rintro e w' ⟨rfl, rfl⟩) | (go_at_call 16; refine (h16 _).mono ?_; rintro e w' ⟨rfl, rfl⟩) | (go_at_call 44; refine (h44 _).mono ?_; rintro e w' ⟨rfl, hb⟩; obtain ⟨hc, hf⟩ := bcell hb))
  exact bodyPost_ret (v := .tuple #[tokV 1 0 (s.extract 0 k) 0, .int .i64 0]) (by simp [results, Tryd.results41, go_sem, hc]) rfl ⟨rfl, below_set4 (below_box hb) (Nat.le_refl _) _ _ _ _⟩

theorem takeLetters_any (s : ByteArray) (w : World) (hs : s.size ≤ 281474976710656) :
    Calls Tryd.prog 41 #[.string s] w (TkOut s (letR s.data.toList) w) := by
  have hm : s.size ≤ maxLen := by unfold maxLen; omega
  have hk := rowLen_le isLod s.data.toList
  rw [ba_len] at hk
  unfold letR
  by_cases h : 16 < rowLen isLod s.data.toList
  · rw [if_pos h]
    exact (takeLetters_long s _ w hm hk rfl h).mono fun e w' h => tkOut_inl h.1 h.2
  · rw [if_neg h, ← ext_list]
    cases hw : wordB (s.extract 0 (rowLen isLod s.data.toList)).data.toList with
    | true => exact (takeLetters_word s _ w hm hk rfl (by omega) hw).mono fun e w' h => tkOut_inr h.1 h.2
    | false => exact (takeLetters_name s _ w hm hk rfl (by omega) hw).mono fun e w' h => tkOut_inr h.1 h.2

end Go.Proofs.YtdlddloggjckmaaDoor
