/- Words and names are one item each, of their kind; no program stands in it. -/
import Derived.Test.YtdlddloggjckmaaDoorN
import Derived.Test.YtdlddloggjckmaaDoorG
namespace Go.Proofs.YtdlddloggjckmaaDoor

theorem skip_stop (c : UInt8) (r : List UInt8) (h : isLet c = true) : skip false (c :: r) = 0 := by
  have hl : 97 ≤ (c.toNat : Int) ∧ (c.toNat : Int) ≤ 122 := by simpa [isLet, letB] using h
  rw [skip, if_neg, if_neg]
  · simp; omega
  · simp [blankB]; omega

theorem pass0_let (l : List UInt8) (h0 : 0 < l.length) (h : isLet l[0] = true) : passEnd false l 0 = 0 := by
  cases l with
  | nil => simp at h0
  | cons c r => unfold passEnd; rw [List.drop_zero, skip_stop c r (by simpa using h)]

theorem ext_all (s : ByteArray) : (s.extract 0 s.size).extract 0 s.size = s := by
  apply ByteArray.ext; simp

def headLet (l : List UInt8) : Bool := match l with | [] => false | c :: _ => isLet c
theorem headLet_eq {l : List UInt8} (h : 0 < l.length) : headLet l = isLet l[0] := by
  cases l with
  | nil => simp at h
  | cons c r => rfl

/-- A row of letters and digits that begins with a letter, is as long as the text, and not too long: one item. -/
theorem items_row (s : ByteArray) (h0 : 0 < s.size) (hl0 : 0 < s.data.toList.length) (h1 : isLet s.data.toList[0] = true) (h2 : rowLen isLod s.data.toList = s.size) (h3 : s.size ≤ 16) :
    items s = [⟨if wordB s.data.toList then 3 else 1, 0, s, 0, 0⟩] := by
  have hr : takeR s.data.toList = .inr ⟨if wordB s.data.toList then 3 else 1, s.size, 0⟩ := by
    rw [takeR_let hl0 h1]
    unfold letR
    rw [h2, if_neg (by omega), List.take_of_length_le (by rw [ba_len]; exact Nat.le_refl _)]
  have hit : itemAt s 0 = ⟨if wordB s.data.toList then 3 else 1, 0, s, 0, 0⟩ := by
    unfold itemAt
    rw [List.drop_zero, hr]
    show It.mk _ _ ((s.extract 0 s.size).extract 0 s.size) _ _ = _
    rw [ext_all]; rfl
  have hn : nextAt s 0 = s.size := by
    unfold nextAt
    rw [List.drop_zero, hr]
    show passEnd false s.data.toList (0 + s.size) = s.size
    rw [Nat.zero_add]; exact passEnd_end _ _ _ (by rw [ba_len]; exact Nat.le_refl _)
  unfold items
  rw [pass0_let _ hl0 h1, itemsFrom_in s _ 0 h0, hit, if_pos rfl, hn, itemsFrom_end _ _ _ (by omega)]

theorem items_name (s : ByteArray) (h : nameB s.data.toList = true) : items s = [⟨1, 0, s, 0, 0⟩] := by
  have hl := ba_len s
  by_cases h0 : 0 < s.size
  · rw [nameB_cons (by omega)] at h
    simp only [Bool.and_eq_true, decide_eq_true_eq, Bool.not_eq_true'] at h
    rw [items_row s h0 (by omega) h.1.2 (by omega) (by omega), h.1.1.2]; rfl
  · have : s.data.toList = [] := List.eq_nil_of_length_eq_zero (by omega)
    rw [this] at h; cases h

theorem word_facts : wordList.all (fun l => headLet l && decide (rowLen isLod l = l.length) && decide (l.length ≤ 16) && decide (0 < l.length)) = true := by decide

theorem items_word (s : ByteArray) (h : wordB s.data.toList = true) : items s = [⟨3, 0, s, 0, 0⟩] := by
  have hl := ba_len s
  have hm : s.data.toList ∈ wordList := by
    rw [wordB_eq, List.any_eq_true] at h
    obtain ⟨x, hx, he⟩ := h
    rw [← beq_iff_eq.1 he]; exact hx
  have hf := List.all_eq_true.1 word_facts _ hm
  simp only [Bool.and_eq_true, decide_eq_true_eq] at hf
  obtain ⟨⟨⟨f1, f2⟩, f3⟩, f4⟩ := hf
  rw [headLet_eq f4] at f1
  rw [items_row s (by omega) f4 f1 (by omega) (by omega), h]; rfl

/-- A single item whose text is the whole source: its kind tells. -/
theorem single_kind (s : ByteArray) (x : It) (hi : items s = [x]) (he : x.err = 0) (ht : x.text = s) : (x.kind == 3) = wordB s.data.toList ∧ (x.kind == 1) = nameB s.data.toList := by
  have hl := ba_len s
  have hin : items s = itemsFrom s (s.size + 1) (passEnd false s.data.toList 0) := rfl
  generalize passEnd false s.data.toList 0 = k at hin
  by_cases hk : k < s.size
  · rw [hin, itemsFrom_in s _ k hk, List.cons.injEq] at hi
    have hx := hi.1
    have hsz : x.text.size = tkL (takeR (s.data.toList.drop k)) := by rw [← hx]; exact item_text_size s k
    rw [ht] at hsz
    have hle := tkL_le (s.data.toList.drop k)
    rw [size_drop] at hle
    have hk0 : k = 0 := by omega
    subst hk0
    rw [List.drop_zero] at hsz
    have hkind : x.kind = tkK (takeR s.data.toList) := by rw [← hx]; unfold itemAt; rw [List.drop_zero]
    have herr : tkE (takeR s.data.toList) = 0 := by
      have : (itemAt s 0).err = 0 := by rw [hx]; exact he
      unfold itemAt at this; rw [List.drop_zero] at this; exact this
    have hl0 : 0 < s.data.toList.length := by omega
    rw [hkind]
    cases h1 : isLet s.data.toList[0] with
    | true =>
      rw [takeR_let hl0 h1] at hsz herr ⊢
      unfold letR at hsz herr ⊢
      by_cases h16 : 16 < rowLen isLod s.data.toList
      · rw [if_pos h16] at herr; simp [tkE] at herr
      · rw [if_neg h16] at hsz ⊢
        have hrl : rowLen isLod s.data.toList = s.size := hsz.symm
        rw [nameB_cons hl0, h1, hrl, hl, List.take_of_length_le (by omega)]
        simp only [tkK]
        rw [show decide (s.size ≤ 16) = true from by simp only [decide_eq_true_eq]; omega]
        cases wordB s.data.toList <;> simp
    | false =>
      have hnw : wordB s.data.toList = false := by
        cases hw : wordB s.data.toList with
        | false => rfl
        | true =>
          have hm : s.data.toList ∈ wordList := by
            rw [wordB_eq, List.any_eq_true] at hw
            obtain ⟨y, hy, hye⟩ := hw
            rw [← beq_iff_eq.1 hye]; exact hy
          have hf := List.all_eq_true.1 word_facts _ hm
          simp only [Bool.and_eq_true, decide_eq_true_eq] at hf
          obtain ⟨⟨⟨f1, f2⟩, f3⟩, f4⟩ := hf
          rw [headLet_eq f4, h1] at f1; cases f1
      have hnn : nameB s.data.toList = false := by rw [nameB_cons hl0, h1]; simp
      rw [hnw, hnn]
      cases h2 : isDig s.data.toList[0] with
      | true =>
        rw [takeR_dig hl0 h1 h2] at herr ⊢
        unfold digR at herr ⊢
        split at herr
        · simp [tkE] at herr
        · exact ⟨rfl, rfl⟩
      | false =>
        rw [takeR_sgn hl0 h1 h2] at herr ⊢
        unfold sgnR at herr ⊢
        split at herr
        · simp [tkE] at herr
        · rename_i h; rw [if_neg h]; exact ⟨rfl, rfl⟩
  · rw [hin, itemsFrom_end s _ k hk] at hi; cases hi

end Go.Proofs.YtdlddloggjckmaaDoor
