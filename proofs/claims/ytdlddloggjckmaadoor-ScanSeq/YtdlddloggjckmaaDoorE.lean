/- scan.takeDigits, scan.take: what each answers; nothing that lay has turned. -/
import Derived.Test.YtdlddloggjckmaaDoorD
namespace Go.Proofs.YtdlddloggjckmaaDoor
open Go.RowKit

/-- The variable strconv.ErrRange holds an interface value. -/
def VarOk (w : World) : Prop := ∃ te pe, w.cell? ⟨1, 0, none⟩ = some (.iface te pe)

theorem VarOk.lt {w : World} (h : VarOk w) : 1 < w.heap.size := by
  obtain ⟨te, pe, h⟩ := h
  exact Lib.lt_of_cell h
theorem VarOk.below {w w' : World} (h : VarOk w) (hb : Below w.heap.size w w') : VarOk w' := by
  have hl := h.lt
  obtain ⟨te, pe, h⟩ := h
  exact ⟨te, pe, (hb.cell (p := ⟨1, 0, none⟩) hl).trans h⟩
theorem VarOk.alloc {w : World} (h : VarOk w) (o : Obj) : VarOk (w.alloc o) := h.below ((Below.refl _ w).alloc (Nat.le_refl _) o)

theorem parse_ok (s : ByteArray) (v : Int) (w : World) (hs : s.size ≤ 281474976710656) (h : Lib.parseIntB 64 s.data.toList = .ok v) :
    Calls Tryd.prog 45 #[.string s, .int .i64 10, .int .i64 64] w fun e w' => e = .returned (.tuple #[.int .i64 v, .nilIface]) ∧ Below w.heap.size w w' :=
  (Tryd.strconv_ParseInt_10_at64_ok s (by omega) v h w).mono fun e w' hx => ⟨hx.1, by
    rcases hx.2 with rfl | ⟨t, rfl⟩
    · exact Below.refl _ _
    · exact Lib.bytesWorld_below _ _ _⟩
theorem parse_range (s : ByteArray) (w : World) (hs : s.size ≤ 281474976710656) (h : Lib.parseIntB 64 s.data.toList = .range) (hv : VarOk w) :
    Calls Tryd.prog 45 #[.string s, .int .i64 10, .int .i64 64] w fun e w' => ∃ N v, e = .returned (.tuple #[.int .i64 v, .iface 67 (.pointer (some ⟨N, 0, none⟩))]) ∧ Below w.heap.size w w' := by
  obtain ⟨te, pe, hv⟩ := hv
  exact (Tryd.strconv_ParseInt_10_at64_range s hs h _ w hv (.inr ⟨te, pe, rfl⟩)).mono fun e w' ⟨N, h1, _, _, h2⟩ => ⟨N, _, h1, h2⟩

set_option maxHeartbeats 400000 in
theorem takeDigits_zero (s : ByteArray) (k : Nat) (w : World) (hm : s.size ≤ maxLen) (hk : k ≤ s.size) (he : rowLen isDig s.data.toList = k) (hl : 1 < k) (hz2 : 0 < (s.extract 0 k).size)
    (hz : ((s.extract 0 k)[0].toNat : Int) = 48) :
    Calls Tryd.prog 42 #[.string s] w fun e w' => e = .returned (.tuple #[tokV 0 0 ⟨#[]⟩ 0, .int .i64 11]) ∧ Below w.heap.size w w' := by
  have h29 : ∀ w, Calls Tryd.prog 29 #[.string s, .func (.func 40) #[] #[]] w fun e w' => e = .returned (.int .i64 (k : Nat)) ∧ w' = w := by intro w; rw [← he]; exact row_dig s w hm
  clear he
  have hsz : (s.extract 0 k).size = k := ext_size s k hk
  have hz1 : 1 < (k : Int) := by omega
  go_enter Tryd.func42, Tryd.ntmps42
  go_wp2_with (first | (go_at_call 29; refine (h29 _).mono ?_; rintro e w' ⟨rfl, rfl⟩))
  exact bodyPost_ret (v := .tuple #[tokV 0 0 ⟨#[]⟩ 0, .int .i64 11]) (by simp [results, Tryd.results42, go_sem]) rfl ⟨rfl, (Below.refl _ w).alloc (Nat.le_refl _) _⟩

/-- Not a row of more than one digit that begins with 0: in two ways. -/
def NoZero (s : ByteArray) (k : Nat) : Prop := ¬ 1 < k ∨ (1 < k ∧ ∃ h : 0 < (s.extract 0 k).size, (((s.extract 0 k)[0].toNat : Int) == 48) = false)

set_option maxHeartbeats 1000000 in
theorem takeDigits_range (s : ByteArray) (k : Nat) (w : World) (hs : s.size ≤ 281474976710656) (hk : k ≤ s.size) (he : rowLen isDig s.data.toList = k) (hn : NoZero s k)
    (hp : Lib.parseIntB 64 (s.extract 0 k).data.toList = .range) (hv : VarOk w) :
    Calls Tryd.prog 42 #[.string s] w fun e w' => e = .returned (.tuple #[tokV 0 0 ⟨#[]⟩ 0, .int .i64 11]) ∧ Below w.heap.size w w' := by
  have hm : s.size ≤ maxLen := by unfold maxLen; omega
  have h29 : ∀ w, Calls Tryd.prog 29 #[.string s, .func (.func 40) #[] #[]] w fun e w' => e = .returned (.int .i64 (k : Nat)) ∧ w' = w := by intro w; rw [← he]; exact row_dig s w hm
  have hsz : (s.extract 0 k).size = k := ext_size s k hk
  have h45 : ∀ w, VarOk w → Calls Tryd.prog 45 #[.string (s.extract 0 k), .int .i64 10, .int .i64 64] w fun e w' => ∃ N v, e = .returned (.tuple #[.int .i64 v, .iface 67 (.pointer (some ⟨N, 0, none⟩))]) ∧ Below w.heap.size w w' :=
    fun w hv => parse_range _ w (by omega) hp hv
  clear he hp
  have hn' : (¬ 1 < (k : Int)) ∨ (1 < (k : Int) ∧ ∃ h : 0 < (s.extract 0 k).size, (((s.extract 0 k)[0].toNat : Int) == 48) = false) := (by
    rcases hn with h | ⟨h, h2⟩
    · exact .inl (by omega)
    · exact .inr ⟨by omega, h2⟩)
  clear hn
  rcases hn' with hn | ⟨hn, h0, hc0⟩
  all_goals
    go_enter Tryd.func42, Tryd.ntmps42
    go_wp2_with (first | (go_at_call 29; refine (h29 _).mono ?_; rintro e w' ⟨rfl, rfl⟩) | (go_at_call 45; refine (h45 _ (hv.alloc _)).mono ?_; rintro e w' ⟨N, v, rfl, hb⟩; obtain ⟨hc, hf⟩ := bcell hb))
    exact bodyPost_ret (v := .tuple #[tokV 0 0 ⟨#[]⟩ 0, .int .i64 11]) (by simp [results, Tryd.results42, go_sem, hc]) rfl ⟨rfl, below_set4 (below_box hb) (Nat.le_refl _) _ _ _ _⟩

set_option maxHeartbeats 1000000 in
theorem takeDigits_num (s : ByteArray) (k : Nat) (v : Int) (w : World) (hs : s.size ≤ 281474976710656) (hk : k ≤ s.size) (he : rowLen isDig s.data.toList = k) (hn : NoZero s k)
    (hp : Lib.parseIntB 64 (s.extract 0 k).data.toList = .ok v) :
    Calls Tryd.prog 42 #[.string s] w fun e w' => e = .returned (.tuple #[tokV 2 0 (s.extract 0 k) v, .int .i64 0]) ∧ Below w.heap.size w w' := by
  have hm : s.size ≤ maxLen := by unfold maxLen; omega
  have h29 : ∀ w, Calls Tryd.prog 29 #[.string s, .func (.func 40) #[] #[]] w fun e w' => e = .returned (.int .i64 (k : Nat)) ∧ w' = w := by intro w; rw [← he]; exact row_dig s w hm
  have hsz : (s.extract 0 k).size = k := ext_size s k hk
  have h45 : ∀ w, Calls Tryd.prog 45 #[.string (s.extract 0 k), .int .i64 10, .int .i64 64] w fun e w' => e = .returned (.tuple #[.int .i64 v, .nilIface]) ∧ Below w.heap.size w w' :=
    fun w => parse_ok _ v w (by omega) hp
  have h44 : ∀ w, Calls Tryd.prog 44 #[.int .i64 2, .string (s.extract 0 k), .int .i64 v] w fun e w' => e = .returned (tokV 2 0 (s.extract 0 k) v) ∧ Below w.heap.size w w' :=
    fun w => token_any 2 _ v w (by omega)
  clear he hp
  have hn' : (¬ 1 < (k : Int)) ∨ (1 < (k : Int) ∧ ∃ h : 0 < (s.extract 0 k).size, (((s.extract 0 k)[0].toNat : Int) == 48) = false) := (by
    rcases hn with h | ⟨h, h2⟩
    · exact .inl (by omega)
    · exact .inr ⟨by omega, h2⟩)
  clear hn
  rcases hn' with hn | ⟨hn, h0, hc0⟩
  all_goals
    go_enter Tryd.func42, Tryd.ntmps42
    go_wp2_with (first | (go_at_call 29; refine (h29 _).mono ?_; rintro e w' ⟨rfl, rfl⟩) | (go_at_call 45; refine (h45 _).mono ?_; rintro e w1 ⟨rfl, hb1⟩) | (go_at_call 44; refine (h44 _).mono ?_; rintro e w2 ⟨rfl, hb2⟩; have hb := hb1.trans (hb2.mono hb1.size); clear hb1 hb2; obtain ⟨hc, hf⟩ := bcell hb))
    exact bodyPost_ret (v := .tuple #[tokV 2 0 (s.extract 0 k) v, .int .i64 0]) (by simp [results, Tryd.results42, go_sem, hc]) rfl ⟨rfl, below_set4 (below_box hb) (Nat.le_refl _) _ _ _ _⟩

theorem head_ext (s : ByteArray) (k : Nat) (h : 0 < (s.extract 0 k).size) : (s.extract 0 k).data.toList.head? = some (s.extract 0 k)[0] := by
  have hl : 0 < (s.extract 0 k).data.toList.length := by rw [ba_len]; exact h
  rw [List.head?_eq_getElem?, List.getElem?_eq_getElem hl]; rfl

theorem u8_48 (c : UInt8) : c = 48 ↔ (c.toNat : Int) = 48 := by
  constructor
  · rintro rfl; rfl
  · intro h; apply UInt8.toNat_inj.1; show c.toNat = 48; omega

theorem takeDigits_any (s : ByteArray) (w : World) (hs : s.size ≤ 281474976710656) (h0 : 0 < s.size) (hd : isDig s[0] = true) (hv : VarOk w) :
    Calls Tryd.prog 42 #[.string s] w (TkOut s (digR s.data.toList) w) := by
  have hm : s.size ≤ maxLen := by unfold maxLen; omega
  have hk := rowLen_le isDig s.data.toList
  rw [ba_len] at hk
  have hpos : 0 < rowLen isDig s.data.toList := rowLen_pos isDig (by rw [ba_len]; exact h0) hd
  have hsz := ext_size s _ hk
  have hall := mem_rowLen isDig s.data.toList
  unfold digR
  rw [← ext_list] at hall ⊢
  have hz2 : 0 < (s.extract 0 (rowLen isDig s.data.toList)).size := by omega
  have hhead := head_ext s _ hz2
  have hlen := ba_len (s.extract 0 (rowLen isDig s.data.toList))
  have hpi := parseIntB_dig (s.extract 0 (rowLen isDig s.data.toList)).data.toList (by intro hx; rw [hx] at hlen; simp at hlen; omega) hall
  unfold numV
  rw [hhead, hlen]
  by_cases h1 : 1 < (s.extract 0 (rowLen isDig s.data.toList)).size ∧ some (s.extract 0 (rowLen isDig s.data.toList))[0] = some 48
  · rw [if_pos h1]
    exact (takeDigits_zero s _ w hm hk rfl (by omega) hz2 ((u8_48 _).1 (Option.some.inj h1.2))).mono fun e w' h => tkOut_inl h.1 h.2
  · rw [if_neg h1]
    have hn : NoZero s (rowLen isDig s.data.toList) := by
      by_cases hlt : 1 < rowLen isDig s.data.toList
      · refine .inr ⟨hlt, hz2, ?_⟩
        rw [beq_eq_false_iff_ne]
        intro hx
        exact h1 ⟨by omega, congrArg some ((u8_48 _).2 hx)⟩
      · exact .inl hlt
    by_cases h2 : natA 0 (s.extract 0 (rowLen isDig s.data.toList)).data.toList ≤ maxI
    · rw [if_pos h2] at hpi ⊢
      exact (takeDigits_num s _ _ w hs hk rfl hn hpi).mono fun e w' h => tkOut_inr h.1 h.2
    · rw [if_neg h2] at hpi ⊢
      exact (takeDigits_range s _ w hs hk rfl hn hpi hv).mono fun e w' h => tkOut_inl h.1 h.2

set_option maxHeartbeats 1000000 in
theorem take_via (s : ByteArray) (r : Sum Int Tk) (b1 b2 : Bool) (w : World) (h0 : 0 < s.size)
    (hb1 : letB s[0].toNat = b1) (hb2 : digB s[0].toNat = b2)
    (h41 : b1 = true → ∀ w, VarOk w → Calls Tryd.prog 41 #[.string s] w (TkOut s r w)) (h42 : b1 = false → b2 = true → ∀ w, VarOk w → Calls Tryd.prog 42 #[.string s] w (TkOut s r w))
    (h43 : b1 = false → b2 = false → ∀ w, VarOk w → Calls Tryd.prog 43 #[.string s] w (TkOut s r w)) (hv : VarOk w) :
    Calls Tryd.prog 34 #[.string s] w (TkOut s r w) := by
  have hi0 := u8_le s[0]
  have hi1 : (0 : Int) ≤ s[0].toNat := by omega
  have h28 : ∀ w, Calls Tryd.prog 28 #[.int .u8 s[0].toNat] w fun e w' => e = .returned (.bool b1) ∧ w' = w := fun w => by rw [← hb1]; exact letter_any _ w hi1 hi0
  have h40 : ∀ w, Calls Tryd.prog 40 #[.int .u8 s[0].toNat] w fun e w' => e = .returned (.bool b2) ∧ w' = w := fun w => by rw [← hb2]; exact digit_any _ w hi1 hi0
  clear hb1 hb2 hi0 hi1
  cases b1
  · cases b2
    · have g43 := h43 rfl rfl
      clear h41 h42 h43
      go_enter Tryd.func34, Tryd.ntmps34
      go_wp2_with (first | (go_at_call 28; refine (h28 _).mono ?_; rintro e w' ⟨rfl, rfl⟩) | (go_at_call 40; refine (h40 _).mono ?_; rintro e w' ⟨rfl, rfl⟩) | (go_at_call 43; refine (g43 _ (hv.alloc _)).mono ?_; rintro e w' ⟨rfl, hb⟩; obtain ⟨hc, hf⟩ := bcell hb))
      exact bodyPost_ret (v := .tuple #[tokV (tkK r) 0 (tkS s r) (tkN r), .int .i64 (tkE r)]) (by simp [results, Tryd.results34, go_sem, hc]) rfl ⟨rfl, below_set4 (below_box hb) (Nat.le_refl _) _ _ _ _⟩
    · have g42 := h42 rfl rfl
      clear h41 h42 h43
      go_enter Tryd.func34, Tryd.ntmps34
      go_wp2_with (first | (go_at_call 28; refine (h28 _).mono ?_; rintro e w' ⟨rfl, rfl⟩) | (go_at_call 40; refine (h40 _).mono ?_; rintro e w' ⟨rfl, rfl⟩) | (go_at_call 42; refine (g42 _ (hv.alloc _)).mono ?_; rintro e w' ⟨rfl, hb⟩; obtain ⟨hc, hf⟩ := bcell hb))
      exact bodyPost_ret (v := .tuple #[tokV (tkK r) 0 (tkS s r) (tkN r), .int .i64 (tkE r)]) (by simp [results, Tryd.results34, go_sem, hc]) rfl ⟨rfl, below_set4 (below_box hb) (Nat.le_refl _) _ _ _ _⟩
  · have g41 := h41 rfl
    clear h41 h42 h43 h40
    go_enter Tryd.func34, Tryd.ntmps34
    go_wp2_with (first | (go_at_call 28; refine (h28 _).mono ?_; rintro e w' ⟨rfl, rfl⟩) | (go_at_call 41; refine (g41 _ (hv.alloc _)).mono ?_; rintro e w' ⟨rfl, hb⟩; obtain ⟨hc, hf⟩ := bcell hb))
    exact bodyPost_ret (v := .tuple #[tokV (tkK r) 0 (tkS s r) (tkN r), .int .i64 (tkE r)]) (by simp [results, Tryd.results34, go_sem, hc]) rfl ⟨rfl, below_set4 (below_box hb) (Nat.le_refl _) _ _ _ _⟩

theorem take_any (s : ByteArray) (w : World) (hs : s.size ≤ 281474976710656) (h0 : 0 < s.size) (hv : VarOk w) :
    Calls Tryd.prog 34 #[.string s] w (TkOut s (takeR s.data.toList) w) := by
  have hl : 0 < s.data.toList.length := by rw [ba_len]; exact h0
  refine take_via s _ _ _ w h0 rfl rfl (fun h w hv => ?_) (fun h h2 w hv => ?_) (fun h h2 w hv => ?_) hv
  · rw [takeR_let hl h]; exact takeLetters_any s w hs
  · rw [takeR_dig hl h h2]; exact takeDigits_any s w hs h0 h2 hv
  · rw [takeR_sgn hl h h2]; exact takeSign_any s w hs h0
end Go.Proofs.YtdlddloggjckmaaDoor
