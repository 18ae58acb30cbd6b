/- Two sources, one behind the other with a line's end between: the items of both. No program stands in it. -/
import Derived.Test.YtdlddloggjckmaaDoorW4
namespace Go.Proofs.YtdlddloggjckmaaDoor

theorem skip_line : ∀ (x : List UInt8) (b : Bool) (y : List UInt8), skip b (x ++ 10 :: y) = if skip b x < x.length then skip b x else x.length + 1 + skip false y
  | [], b, y => by
    rw [List.nil_append, if_neg (by simp [skip]), List.length_nil, Nat.zero_add]
    cases b
    · rw [skip, if_pos (by decide)]; omega
    · rw [skip, if_pos (by decide)]; omega
  | c :: x, b, y => by
    have h1 := skip_line x false y
    have h2 := skip_line x true y
    rw [List.cons_append]
    cases b
    · rw [skip, skip]
      split
      · rw [h1, List.length_cons]; split <;> split <;> omega
      · split
        · rw [h2, List.length_cons]; split <;> split <;> omega
        · rw [if_pos (by simp)]
    · rw [skip, skip]
      split
      · rw [h1, List.length_cons]; split <;> split <;> omega
      · rw [h2, List.length_cons]; split <;> split <;> omega

theorem rowLen_line (p : UInt8 → Bool) (hp : p 10 = false) (x y : List UInt8) : rowLen p (x ++ 10 :: y) = rowLen p x := by
  induction x with
  | nil => rw [List.nil_append, rowLen_cons, if_neg (by simp [hp]), rowLen_nil]
  | cons c x ih => rw [List.cons_append, rowLen_cons, rowLen_cons, ih]

theorem sign2_ten (c : UInt8) : sign2B [c, 10] = false := by simp [sign2B]
theorem signLen_line (x y : List UInt8) (hx : 0 < x.length) : signLen (x ++ 10 :: y) = signLen x := by
  match x, hx with
  | [c], _ =>
    have h1 : ¬ (2 ≤ ([c] ++ 10 :: y).length ∧ sign2B (([c] ++ 10 :: y).take 2) = true) := by
      rintro ⟨_, h⟩; simp only [List.cons_append, List.nil_append, List.take_succ_cons, List.take_zero] at h; rw [sign2_ten] at h; cases h
    have h2 : ¬ (2 ≤ [c].length ∧ sign2B ([c].take 2) = true) := by simp
    unfold signLen
    rw [if_neg h1, if_neg h2]; rfl
  | c :: d :: r, _ =>
    unfold signLen
    have e1 : ((c :: d :: r) ++ 10 :: y).take 2 = (c :: d :: r).take 2 := by simp
    rw [e1]
    have e2 : (2 ≤ ((c :: d :: r) ++ 10 :: y).length ∧ sign2B ((c :: d :: r).take 2) = true) ↔ (2 ≤ (c :: d :: r).length ∧ sign2B ((c :: d :: r).take 2) = true) := by simp
    by_cases h : 2 ≤ (c :: d :: r).length ∧ sign2B ((c :: d :: r).take 2) = true
    · rw [if_pos h, if_pos (e2.2 h)]
    · rw [if_neg h, if_neg (fun h' => h (e2.1 h'))]; rfl

theorem takeR_line (x y : List UInt8) (hx : 0 < x.length) : takeR (x ++ 10 :: y) = takeR x := by
  match x, hx with
  | c :: r, _ =>
    have hl := rowLen_line isLod (by decide) (c :: r) y
    have hd := rowLen_line isDig (by decide) (c :: r) y
    have hs := signLen_line (c :: r) y (by simp)
    have tl : ((c :: r) ++ 10 :: y).take (rowLen isLod (c :: r)) = (c :: r).take (rowLen isLod (c :: r)) := List.take_append_of_le_length (rowLen_le _ _)
    have td : ((c :: r) ++ 10 :: y).take (rowLen isDig (c :: r)) = (c :: r).take (rowLen isDig (c :: r)) := List.take_append_of_le_length (rowLen_le _ _)
    show (if isLet c then letR ((c :: r) ++ 10 :: y) else if isDig c then digR ((c :: r) ++ 10 :: y) else sgnR ((c :: r) ++ 10 :: y)) = (if isLet c then letR (c :: r) else if isDig c then digR (c :: r) else sgnR (c :: r))
    have e1 : letR ((c :: r) ++ 10 :: y) = letR (c :: r) := by unfold letR; rw [hl, tl]
    have e2 : digR ((c :: r) ++ 10 :: y) = digR (c :: r) := by unfold digR; rw [hd, td]
    have e3 : sgnR ((c :: r) ++ 10 :: y) = sgnR (c :: r) := by unfold sgnR; rw [hs]
    rw [e1, e2, e3]

/-- The one behind the other. -/
def joined (a b : ByteArray) : ByteArray := a ++ ⟨#[10]⟩ ++ b
theorem joined_list (a b : ByteArray) : (joined a b).data.toList = a.data.toList ++ 10 :: b.data.toList := by
  unfold joined; simp
theorem joined_size (a b : ByteArray) : (joined a b).size = a.size + 1 + b.size := by
  have h := ba_len (joined a b)
  rw [joined_list] at h
  simp at h
  have h1 := ba_len a
  have h2 := ba_len b
  simp at h1 h2
  omega

theorem drop_a (a b : ByteArray) (k : Nat) (hk : k ≤ a.size) : (joined a b).data.toList.drop k = a.data.toList.drop k ++ 10 :: b.data.toList := by
  rw [joined_list, List.drop_append_of_le_length (by rw [ba_len]; exact hk)]
theorem drop_b (a b : ByteArray) (j : Nat) : (joined a b).data.toList.drop (a.size + 1 + j) = b.data.toList.drop j := by
  rw [joined_list, List.drop_append, ba_len]
  have e1 : a.data.toList.drop (a.size + 1 + j) = [] := List.drop_eq_nil_of_le (by rw [ba_len]; omega)
  rw [e1, List.nil_append, show a.size + 1 + j - a.size = j + 1 from by omega, List.drop_succ_cons]

theorem ba_ext {x y : ByteArray} (h : x.data.toList = y.data.toList) : x = y := by
  apply ByteArray.ext; exact Array.toList_inj.1 h

theorem text_a (a b : ByteArray) (k L : Nat) (h : k + L ≤ a.size) : ((joined a b).extract k (joined a b).size).extract 0 L = (a.extract k a.size).extract 0 L := by
  have hs := joined_size a b
  rw [ext_ext _ k L (by omega), ext_ext _ k L h]
  apply ba_ext
  rw [ext_mid_list, ext_mid_list, show k + L - k = L from by omega, drop_a a b k (by omega)]
  exact List.take_append_of_le_length (by rw [size_drop]; omega)
theorem text_b (a b : ByteArray) (j L : Nat) (h : j + L ≤ b.size) : ((joined a b).extract (a.size + 1 + j) (joined a b).size).extract 0 L = (b.extract j b.size).extract 0 L := by
  have hs := joined_size a b
  rw [ext_ext _ (a.size + 1 + j) L (by omega), ext_ext _ j L h]
  apply ba_ext
  rw [ext_mid_list, ext_mid_list, show a.size + 1 + j + L - (a.size + 1 + j) = L from by omega, show j + L - j = L from by omega, drop_b]

/-- An item so much further on. -/
def far (n : Nat) (x : It) : It := { x with at_ := n + x.at_ }

theorem item_a (a b : ByteArray) (k : Nat) (hk : k < a.size) : itemAt (joined a b) k = itemAt a k ∧ tkL (takeR ((joined a b).data.toList.drop k)) = tkL (takeR (a.data.toList.drop k)) := by
  have ht : takeR ((joined a b).data.toList.drop k) = takeR (a.data.toList.drop k) := by
    rw [drop_a a b k (by omega)]; exact takeR_line _ _ (by rw [size_drop]; omega)
  have hle := tkL_le (a.data.toList.drop k)
  rw [size_drop] at hle
  refine ⟨?_, by rw [ht]⟩
  unfold itemAt tkS
  rw [ht, text_a a b k _ (by omega)]
theorem item_b (a b : ByteArray) (j : Nat) (hj : j < b.size) : itemAt (joined a b) (a.size + 1 + j) = far (a.size + 1) (itemAt b j) := by
  have hle := tkL_le (b.data.toList.drop j)
  rw [size_drop] at hle
  unfold itemAt tkS far
  rw [drop_b, text_b a b j _ (by omega)]
theorem next_b (a b : ByteArray) (j : Nat) : nextAt (joined a b) (a.size + 1 + j) = a.size + 1 + nextAt b j := by
  unfold nextAt passEnd
  rw [drop_b, show a.size + 1 + j + tkL (takeR (b.data.toList.drop j)) = a.size + 1 + (j + tkL (takeR (b.data.toList.drop j))) from by omega, drop_b]
  omega

/-- Where the items go on: in the first source, or in the second one. -/
def conv (a b : ByteArray) (k : Nat) : Nat := if k < a.size then k else a.size + 1 + passEnd false b.data.toList 0
theorem pass_conv (a b : ByteArray) (k : Nat) (hk : k ≤ a.size) : passEnd false (joined a b).data.toList k = conv a b (passEnd false a.data.toList k) := by
  have hl := skip_le false (a.data.toList.drop k)
  unfold conv passEnd
  rw [drop_a a b k hk, skip_line, size_drop] at *
  rw [List.drop_zero]
  split <;> split <;> omega

theorem itemsFrom_b (a b : ByteArray) : ∀ f j, itemsFrom (joined a b) f (a.size + 1 + j) = (itemsFrom b f j).map (far (a.size + 1))
  | 0, _ => rfl
  | f + 1, j => by
    have hs := joined_size a b
    by_cases h : j < b.size
    · rw [itemsFrom_in _ f _ (by omega), itemsFrom_in b f j h, item_b a b j h, next_b, itemsFrom_b a b f]
      have : (far (a.size + 1) (itemAt b j)).err = (itemAt b j).err := rfl
      rw [this, List.map_cons]
      split
      · rfl
      · rfl
    · rw [itemsFrom_end _ _ _ (by omega), itemsFrom_end b _ _ h]; rfl

theorem itemsFrom_fuel (s : ByteArray) : ∀ f g k, s.size < k + f → s.size < k + g → itemsFrom s f k = itemsFrom s g k
  | 0, g, k, h1, _ => by rw [itemsFrom_end s 0 k (by omega), itemsFrom_end s g k (by omega)]
  | f + 1, 0, k, _, h2 => by rw [itemsFrom_end s _ k (by omega), itemsFrom_end s 0 k (by omega)]
  | f + 1, g + 1, k, h1, h2 => by
    by_cases h : k < s.size
    · rw [itemsFrom_in s f k h, itemsFrom_in s g k h]
      by_cases he : (itemAt s k).err = 0
      · have := nextAt_gt s k h he
        rw [if_pos he, if_pos he, itemsFrom_fuel s f g (nextAt s k) (by omega) (by omega)]
      · rw [if_neg he, if_neg he]
    · rw [itemsFrom_end s _ k h, itemsFrom_end s _ k h]

theorem itemsFrom_ab (a b : ByteArray) : ∀ f g k, k ≤ a.size → a.size < k + f → (joined a b).size < k + g →
    itemsFrom (joined a b) g (conv a b k) = itemsFrom a f k ++ (if (itemsFrom a f k).all (fun y => y.err == 0) then (items b).map (far (a.size + 1)) else [])
  | 0, g, k, h0, h1, h2 => by omega
  | f + 1, g, k, h0, h1, h2 => by
    have hs := joined_size a b
    have hpb := passEnd_le false b.data.toList 0 (Nat.zero_le _)
    rw [ba_len] at hpb
    by_cases h : k < a.size
    · obtain ⟨g', rfl⟩ : ∃ g', g = g' + 1 := ⟨g - 1, by omega⟩
      have hc : conv a b k = k := by unfold conv; rw [if_pos h]
      obtain ⟨e1, e2⟩ := item_a a b k h
      rw [hc, itemsFrom_in _ g' k (by omega), itemsFrom_in a f k h, e1]
      by_cases he : (itemAt a k).err = 0
      · rw [if_pos he, if_pos he]
        have hgt := nextAt_gt a k h he
        have hle := nextAt_le a k h
        have hn : nextAt (joined a b) k = conv a b (nextAt a k) := by
          unfold nextAt; rw [e2, pass_conv a b _ hle.2]
        rw [hn, itemsFrom_ab a b f g' (nextAt a k) hle.1 (by omega) (by omega), List.cons_append]
        simp [he]
      · rw [if_neg he, if_neg he]
        simp [he]
    · have hc : conv a b k = a.size + 1 + passEnd false b.data.toList 0 := by unfold conv; rw [if_neg h]
      rw [hc, itemsFrom_b, itemsFrom_end a _ k h, List.nil_append]
      simp only [List.all_nil, if_true]
      unfold items
      rw [itemsFrom_fuel b g (b.size + 1) _ (by omega) (by omega)]

theorem items_join (a b : ByteArray) : items (joined a b) = items a ++ (if (items a).all (fun y => y.err == 0) then (items b).map (far (a.size + 1)) else []) := by
  have hp := passEnd_le false a.data.toList 0 (Nat.zero_le _)
  rw [ba_len] at hp
  have hs := joined_size a b
  unfold items
  rw [pass_conv a b 0 (Nat.zero_le _)]
  exact itemsFrom_ab a b (a.size + 1) ((joined a b).size + 1) _ hp (by omega) (by omega)

end Go.Proofs.YtdlddloggjckmaaDoor
