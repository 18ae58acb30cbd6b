/- strings.Clone, scan.token, scan.takeSign, takeLetters: what each answers; nothing that lay has turned. -/
import Derived.Test.YtdlddloggjckmaaDoorB
import Derived.Test.YtdlddloggjckmaaDoorM3
import Derived.Test.YtdlddloggjckmaaDoorShelf
namespace Go.Proofs.YtdlddloggjckmaaDoor
open Go.RowKit

/-- A token as the machine holds it. -/
abbrev tokV (kind at_ : Int) (text : ByteArray) (n : Int) : Value := .agg #[.int .i64 kind, .int .i64 at_, .string text, .int .i64 n]
abbrev tokC (kind at_ : Int) (text : ByteArray) (n : Int) : Obj := .cells #[.int .i64 kind, .int .i64 at_, .string text, .int .i64 n] 33

theorem bcell {W w1 : World} (hb : Below W.heap.size W w1) : (∀ b o, b < W.heap.size → w1.cell? ⟨b, o, none⟩ = W.cell? ⟨b, o, none⟩) ∧ (∀ b o, b < W.heap.size → w1.frozen? ⟨b, o, none⟩ = W.frozen? ⟨b, o, none⟩) :=
  ⟨fun b o h => hb.cell (p := ⟨b, o, none⟩) h, fun b o h => hb.frozen (p := ⟨b, o, none⟩) h⟩

theorem below_set4 {B b : Nat} {w w' : World} (hb : Below B w w') (h : B ≤ b) (u0 u1 u2 u3 : Value) :
    Below B w ((((w'.setCell ⟨b, 0, none⟩ u0).setCell ⟨b, 1, none⟩ u1).setCell ⟨b, 2, none⟩ u2).setCell ⟨b, 3, none⟩ u3) :=
  (((hb.setCell (p := ⟨b, 0, none⟩) h u0).setCell (p := ⟨b, 1, none⟩) h u1).setCell (p := ⟨b, 2, none⟩) h u2).setCell (p := ⟨b, 3, none⟩) h u3
theorem below_box {w w' : World} {o : Obj} (hb : Below (w.alloc o).heap.size (w.alloc o) w') : Below w.heap.size w w' :=
  ((Below.refl _ w).alloc (Nat.le_refl _) o).trans (hb.mono (by simp))

set_option maxHeartbeats 400000 in
theorem clone_any (s : ByteArray) (w : World) (hs : s.size ≤ 281474976710656) :
    Calls Tryd.prog 24 #[.string s] w fun e w' => e = .returned (.string s) ∧ Below w.heap.size w w' := by
  go_enter Tryd.func24, Tryd.ntmps24
  go_wp2_with (go_at_call 39; refine (Tryd.stringslite_Clone _ _ hs).mono ?_; rintro e w' ⟨rfl, hb⟩)
  go_ret
  exact ⟨rfl, hb⟩

set_option maxHeartbeats 400000 in
theorem token_any (kind : Int) (s : ByteArray) (n : Int) (w : World) (hs : s.size ≤ 281474976710656) :
    Calls Tryd.prog 44 #[.int .i64 kind, .string s, .int .i64 n] w fun e w' => e = .returned (tokV kind 0 s n) ∧ Below w.heap.size w w' := by
  go_enter Tryd.func44, Tryd.ntmps44
  go_wp2_with (go_at_call 24; refine (clone_any _ _ hs).mono ?_; rintro e w' ⟨rfl, hb⟩; obtain ⟨hc, hf⟩ := bcell hb)
  exact bodyPost_ret (v := tokV kind 0 s n) (by simp [results, Tryd.results44, go_sem, hc]) rfl ⟨rfl, below_set4 (below_box hb) (Nat.le_refl _) _ _ _ _⟩

theorem sign_any (s : ByteArray) (w : World) (hs : s.size ≤ maxLen) (h0 : 0 < s.size) :
    Calls Tryd.prog 46 #[.string s] w fun e w' => e = .returned (.int .i64 (signLen s.data.toList : Nat)) ∧ w' = w := by
  have hlen := ba_len s
  by_cases h : 2 ≤ s.data.toList.length ∧ sign2B (s.data.toList.take 2) = true
  · rw [signLen_two h.1 h.2]; exact sign_two s w hs (by omega) h.2
  · have := sign_one s w hs h0 (fun h2 => by cases hx : sign2B (s.data.toList.take 2) with | false => rfl | true => exact (h ⟨by omega, hx⟩).elim)
    cases hx : sign1B s[0].toNat with
    | true => rw [signLen_one h (by omega) hx]; rw [show s1N s[0].toNat = 1 from by unfold s1N; rw [if_pos hx]] at this; exact this
    | false => rw [signLen_no h (by omega) hx]; rw [show s1N s[0].toNat = 0 from by unfold s1N; rw [if_neg (by simp [hx])]] at this; exact this

theorem ext0 (s : ByteArray) : s.extract 0 0 = ⟨#[]⟩ := by
  apply ByteArray.ext; simp
theorem ext_size (s : ByteArray) (k : Nat) (h : k ≤ s.size) : (s.extract 0 k).size = k := by simp; omega

/-- What a take answers: the token at place 0, or a zero token and the error. -/
def TkOut (s : ByteArray) (r : Sum Int Tk) (w : World) (e : Ending) (w' : World) : Prop :=
  e = .returned (.tuple #[tokV (tkK r) 0 (tkS s r) (tkN r), .int .i64 (tkE r)]) ∧ Below w.heap.size w w'

theorem tkOut_inl {s : ByteArray} {w w' : World} {e : Ending} {c : Int} (h : e = .returned (.tuple #[tokV 0 0 ⟨#[]⟩ 0, .int .i64 c])) (hb : Below w.heap.size w w') : TkOut s (.inl c) w e w' :=
  ⟨by rw [h, show tkS s (.inl c) = ⟨#[]⟩ from ext0 s]; rfl, hb⟩
theorem tkOut_inr {s : ByteArray} {w w' : World} {e : Ending} {k n : Int} {l : Nat} (h : e = .returned (.tuple #[tokV k 0 (s.extract 0 l) n, .int .i64 0])) (hb : Below w.heap.size w w') : TkOut s (.inr ⟨k, l, n⟩) w e w' :=
  ⟨by rw [h]; rfl, hb⟩

theorem sgn_no {l : List UInt8} (h : signLen l = 0) : sgnR l = .inl 10 := by unfold sgnR; rw [if_pos h]
theorem sgn_yes {l : List UInt8} (h : signLen l ≠ 0) : sgnR l = .inr ⟨4, signLen l, 0⟩ := by unfold sgnR; rw [if_neg h]

set_option maxHeartbeats 400000 in
theorem takeSign_no (s : ByteArray) (w : World) (hm : s.size ≤ maxLen) (h0 : 0 < s.size) (hz : (((signLen s.data.toList : Nat) : Int) == 0) = true) :
    Calls Tryd.prog 43 #[.string s] w fun e w' => e = .returned (.tuple #[tokV 0 0 ⟨#[]⟩ 0, .int .i64 10]) ∧ Below w.heap.size w w' := by
  go_enter Tryd.func43, Tryd.ntmps43
  go_wp2_with (first | (go_at_call 46; refine (sign_any _ _ hm h0).mono ?_; rintro e w' ⟨rfl, rfl⟩))
  exact bodyPost_ret (v := .tuple #[tokV 0 0 ⟨#[]⟩ 0, .int .i64 10]) (by simp [results, Tryd.results43, go_sem]) rfl ⟨rfl, (Below.refl _ w).alloc (Nat.le_refl _) _⟩

set_option maxHeartbeats 400000 in
theorem takeSign_yes (s : ByteArray) (k : Nat) (w : World) (hs : s.size ≤ 281474976710656) (hk : k ≤ s.size) (h0 : 0 < s.size) (he : signLen s.data.toList = k) (hz : ((k : Int) == 0) = false) :
    Calls Tryd.prog 43 #[.string s] w fun e w' => e = .returned (.tuple #[tokV 4 0 (s.extract 0 k) 0, .int .i64 0]) ∧ Below w.heap.size w w' := by
  have hm : s.size ≤ maxLen := by unfold maxLen; omega
  have h46 : ∀ w, Calls Tryd.prog 46 #[.string s] w fun e w' => e = .returned (.int .i64 (k : Nat)) ∧ w' = w := by intro w; rw [← he]; exact sign_any s w hm h0
  clear he
  have h44 : ∀ w, Calls Tryd.prog 44 #[.int .i64 4, .string (s.extract 0 k), .int .i64 0] w fun e w' => e = .returned (tokV 4 0 (s.extract 0 k) 0) ∧ Below w.heap.size w w' :=
    fun w => token_any 4 _ 0 w (by rw [ext_size s k hk]; omega)
  go_enter Tryd.func43, Tryd.ntmps43
  go_wp2_with (first | (go_at_call 46; refine (h46 _).mono ?_; rintro e w' ⟨rfl, rfl⟩) | (go_at_call 44; refine (h44 _).mono ?_; rintro e w' ⟨rfl, hb⟩; obtain ⟨hc, hf⟩ := bcell hb))
  exact bodyPost_ret (v := .tuple #[tokV 4 0 (s.extract 0 k) 0, .int .i64 0]) (by simp [results, Tryd.results43, go_sem, hc]) rfl ⟨rfl, below_set4 (below_box hb) (Nat.le_refl _) _ _ _ _⟩

theorem takeSign_any (s : ByteArray) (w : World) (hs : s.size ≤ 281474976710656) (h0 : 0 < s.size) :
    Calls Tryd.prog 43 #[.string s] w (TkOut s (sgnR s.data.toList) w) := by
  have hm : s.size ≤ maxLen := by unfold maxLen; omega
  obtain ⟨hl1, hl2⟩ := signLen_le s.data.toList
  rw [ba_len] at hl1
  by_cases h : signLen s.data.toList = 0
  · rw [sgn_no h]
    exact (takeSign_no s w hm h0 (by rw [h]; rfl)).mono fun e w' h => tkOut_inl h.1 h.2
  · rw [sgn_yes h]
    exact (takeSign_yes s _ w hs hl1 h0 rfl (by rw [beq_eq_false_iff_ne]; omega)).mono fun e w' h => tkOut_inr h.1 h.2

end Go.Proofs.YtdlddloggjckmaaDoor
