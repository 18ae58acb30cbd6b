/- The reference's one: at every place where no blank stands, the item's token, or a zero token and the item's error. -/
import Derived.Test.YtdlddloggjckmaaDoorQ6
import Derived.Test.YtdlddloggjckmaaDoorQ7
namespace Go.Proofs.YtdlddloggjckmaaDoor
open Go.RowKit

theorem item_inl {s : ByteArray} {k : Nat} {e : Int} (h : takeR (s.data.toList.drop k) = .inl e) : itemAt s k = ⟨0, k, ⟨#[]⟩, 0, e⟩ := by
  unfold itemAt; rw [h]; show It.mk _ _ ((s.extract k s.size).extract 0 0) _ _ = _; rw [ext0]; rfl
theorem item_inr {s : ByteArray} {k L : Nat} {kd n : Int} (h : takeR (s.data.toList.drop k) = .inr ⟨kd, L, n⟩) (hL : k + L ≤ s.size) : itemAt s k = ⟨kd, k, s.extract k (k + L), n, 0⟩ := by
  unfold itemAt; rw [h]; show It.mk _ _ ((s.extract k s.size).extract 0 L) _ _ = _; rw [ext_ext s k L hL]; rfl

theorem oneOut_inl {s : ByteArray} {k : Nat} {c : Int} {w w' : World} {e : Ending} (h : takeR (s.data.toList.drop k) = .inl c) (hc : c ≠ 0) (he : e = .returned (.tuple #[tokV 0 0 ⟨#[]⟩ 0, .int .i64 c])) (hb : Below w.heap.size w w') : OneOut (itemAt s k) w e w' := by
  rw [item_inl h]
  refine ⟨?_, hb⟩
  rw [he, show atOf ⟨0, k, ⟨#[]⟩, 0, c⟩ = 0 from if_neg hc]
theorem oneOut_inr {s : ByteArray} {k L : Nat} {kd n : Int} {w w' : World} {e : Ending} (h : takeR (s.data.toList.drop k) = .inr ⟨kd, L, n⟩) (hL : k + L ≤ s.size) (he : e = .returned (.tuple #[tokV kd k (s.extract k (k + L)) n, .int .i64 0])) (hb : Below w.heap.size w w') : OneOut (itemAt s k) w e w' := by
  rw [item_inr h hL]
  exact ⟨he, hb⟩

theorem drop_head (s : ByteArray) (k : Nat) (hk : k < s.size) (h0 : 0 < (s.data.toList.drop k).length) : (s.data.toList.drop k)[0] = s[k] := by
  rw [List.getElem_drop]; rfl

theorem one_at_let (s : ByteArray) (k : Nat) (w : World) (hs : s.size ≤ 281474976710656) (hk : k < s.size) (hl : letB s[k].toNat = true) : Calls Tryd.prog 22 #[.string s, .int .i64 k] w (OneOut (itemAt s k) w) := by
  have h0 : 0 < (s.data.toList.drop k).length := by rw [size_drop]; omega
  have hle := rowLen_le isLod (s.data.toList.drop k)
  rw [size_drop] at hle
  have ht : takeR (s.data.toList.drop k) = letR (s.data.toList.drop k) := takeR_let h0 (by rw [drop_head s k hk h0]; exact hl)
  refine (one_let s k (k + rowLen isLod (s.data.toList.drop k)) w hs hk hl (by omega) (by omega) (by omega)).mono fun e w' h => ?_
  obtain ⟨h, hb⟩ := h
  rw [show k + rowLen isLod (s.data.toList.drop k) - k = rowLen isLod (s.data.toList.drop k) from by omega, ext_mid_list, show k + rowLen isLod (s.data.toList.drop k) - k = rowLen isLod (s.data.toList.drop k) from by omega] at h
  unfold letR at ht
  rcases h with ⟨h1, h2⟩ | ⟨h1, ⟨h2, h3⟩ | ⟨h2, h3⟩⟩
  · rw [if_pos h1] at ht
    exact oneOut_inl ht (by decide) h2 hb
  · rw [if_neg (by omega), h2, if_pos rfl] at ht
    exact oneOut_inr ht (by omega) h3 hb
  · rw [if_neg (by omega), h2, if_neg (by decide)] at ht
    exact oneOut_inr ht (by omega) h3 hb

theorem mid_get (s : ByteArray) (k m i : Nat) (h : i < (s.extract k m).size) (hm : m ≤ s.size) : ∃ h' : k + i < s.size, (s.extract k m)[i] = s[k + i] := by
  have hsz := ext_mid s k m hm
  refine ⟨by omega, ?_⟩
  rw [ByteArray.getElem_extract]

theorem one_at_dig (s : ByteArray) (k : Nat) (w : World) (hs : s.size ≤ 281474976710656) (hk : k < s.size) (hl : letB s[k].toNat = false) (hd : digB s[k].toNat = true) : Calls Tryd.prog 22 #[.string s, .int .i64 k] w (OneOut (itemAt s k) w) := by
  have h0 : 0 < (s.data.toList.drop k).length := by rw [size_drop]; omega
  have hle := rowLen_le isDig (s.data.toList.drop k)
  rw [size_drop] at hle
  have hpos := rowLen_pos isDig h0 (by rw [drop_head s k hk h0]; exact hd)
  have hall := mem_rowLen isDig (s.data.toList.drop k)
  have ht : takeR (s.data.toList.drop k) = digR (s.data.toList.drop k) := takeR_dig h0 (by rw [drop_head s k hk h0]; exact hl) (by rw [drop_head s k hk h0]; exact hd)
  unfold digR numV at ht
  obtain ⟨L, hL⟩ : ∃ L, rowLen isDig (s.data.toList.drop k) = L := ⟨_, rfl⟩
  rw [hL] at ht hle hpos hall
  have hml : (s.extract k (k + L)).data.toList = (s.data.toList.drop k).take L := by rw [ext_mid_list, show k + L - k = L from by omega]
  have hsz : (s.extract k (k + L)).size = L := by rw [ext_mid s k (k + L) (by omega)]; omega
  have hz0 : 0 < (s.extract k (k + L)).size := by omega
  rw [← hml] at ht hall
  have hlen := ba_len (s.extract k (k + L))
  have hhead : (s.extract k (k + L)).data.toList.head? = some (s.extract k (k + L))[0] := by
    have hl : 0 < (s.extract k (k + L)).data.toList.length := by rw [ba_len]; exact hz0
    rw [List.head?_eq_getElem?, List.getElem?_eq_getElem hl]; rfl
  rw [hhead, hlen] at ht
  have hdig : ∀ i (h : i < (s.extract k (k + L)).size), 48 ≤ (s.extract k (k + L))[i].toNat ∧ (s.extract k (k + L))[i].toNat ≤ 57 := fun i h =>
    (isDig_iff _).1 (hall _ (List.getElem_mem (l := (s.extract k (k + L)).data.toList) (by rw [hlen]; exact h)))
  by_cases h1 : 1 < (s.extract k (k + L)).size ∧ some (s.extract k (k + L))[0] = some 48
  · rw [if_pos h1] at ht
    have hv : ∀ w, Calls Tryd.prog 37 #[.string (s.extract k (k + L))] w fun e w' => e = .returned (.tuple #[.int .i64 0, .bool false]) ∧ w' = w := fun w =>
      value_zero _ w hz0 (by omega) ((u8_48 _).1 (Option.some.inj h1.2))
    refine (one_dig s k (k + L) 0 false w hs hk hl hd (by omega) (by omega) (by omega) hv).mono fun e w' h => ?_
    obtain ⟨⟨_, h⟩ | ⟨h, _⟩, hb⟩ := h
    · exact oneOut_inl ht (by decide) h hb
    · cases h
  · rw [if_neg h1] at ht
    have hn : (¬ 1 < ((s.extract k (k + L)).size : Int)) ∨ (1 < ((s.extract k (k + L)).size : Int) ∧ ∃ h : 0 < (s.extract k (k + L)).size, (((s.extract k (k + L))[0].toNat : Int) == 48) = false) := by
      by_cases hlt : 1 < (s.extract k (k + L)).size
      · refine .inr ⟨by omega, hz0, ?_⟩
        rw [beq_eq_false_iff_ne]
        intro hx
        exact h1 ⟨hlt, congrArg some ((u8_48 _).2 hx)⟩
      · exact .inl (by omega)
    have hv : ∀ w, Calls Tryd.prog 37 #[.string (s.extract k (k + L))] w fun e w' => e = .returned (.tuple #[.int .i64 (valN (s.extract k (k + L)).data.toList), .bool (valOk (s.extract k (k + L)).data.toList)]) ∧ w' = w := fun w =>
      value_loop _ w (by unfold maxLen; omega) hdig hn
    refine (one_dig s k (k + L) _ _ w hs hk hl hd (by omega) (by omega) (by omega) hv).mono fun e w' h => ?_
    by_cases h2 : natA 0 (s.extract k (k + L)).data.toList ≤ maxI
    · rw [if_pos h2] at ht
      obtain ⟨v1, v2⟩ := valN_ok h2
      rw [v1, v2] at h
      obtain ⟨⟨h, _⟩ | ⟨_, h⟩, hb⟩ := h
      · cases h
      · exact oneOut_inr ht (by omega) h hb
    · rw [if_neg h2] at ht
      obtain ⟨v1, v2⟩ := valN_no h2
      rw [v1, v2] at h
      obtain ⟨⟨_, h⟩ | ⟨h, _⟩, hb⟩ := h
      · exact oneOut_inl ht (by decide) h hb
      · cases h

/-- Does a text stand at the beginning of a list of bytes? -/
def preB (l : List UInt8) (x : ByteArray) : Bool := decide (x.size ≤ l.length) && l.take x.size == x.data.toList
theorem stands_eq (s : ByteArray) (k : Nat) (hk : k < s.size) (x : ByteArray) : standsB s k x = preB (s.data.toList.drop k) x := by
  unfold standsB preB
  rw [ba_list, ba_list, ext_mid_list, size_drop, show k + x.size - k = x.size from by omega]
  congr 1
  rw [decide_eq_decide]; omega

theorem sign2_tab (t : List UInt8) : sign2B t = (signsB.take 7).any (fun x => t == x.data.toList) := by
  simp [sign2B, signsB, Bool.or_assoc]
theorem sign1_tab : ∀ n : Fin 256, sign1B n.val = (signsB.drop 7).any (fun x => [UInt8.ofNat n.val] == x.data.toList) := by decide +kernel
theorem sign1_eq (c : UInt8) : sign1B c.toNat = (signsB.drop 7).any (fun x => [c] == x.data.toList) := by
  have := sign1_tab ⟨c.toNat, c.toNat_lt⟩
  simpa using this
theorem sizes2 : (signsB.take 7).all (fun x => decide (x.size = 2)) = true := by decide
theorem sizes1 : (signsB.drop 7).all (fun x => decide (x.size = 1)) = true := by decide

theorem any2 (l : List UInt8) : (2 ≤ l.length ∧ sign2B (l.take 2) = true) ↔ ∃ x ∈ signsB.take 7, preB l x = true := by
  rw [sign2_tab, List.any_eq_true]
  constructor
  · rintro ⟨h, x, hx, he⟩
    have hs : x.size = 2 := by simpa using List.all_eq_true.1 sizes2 x hx
    refine ⟨x, hx, ?_⟩
    unfold preB
    rw [hs, he]; simpa using h
  · rintro ⟨x, hx, hp⟩
    have hs : x.size = 2 := by simpa using List.all_eq_true.1 sizes2 x hx
    unfold preB at hp
    rw [hs, Bool.and_eq_true] at hp
    exact ⟨by simpa using hp.1, x, hx, hp.2⟩
theorem any1 (c : UInt8) (r : List UInt8) : sign1B c.toNat = true ↔ ∃ x ∈ signsB.drop 7, preB (c :: r) x = true := by
  rw [sign1_eq, List.any_eq_true]
  constructor
  · rintro ⟨x, hx, he⟩
    have hs : x.size = 1 := by simpa using List.all_eq_true.1 sizes1 x hx
    refine ⟨x, hx, ?_⟩
    unfold preB
    rw [hs]; simpa using he
  · rintro ⟨x, hx, hp⟩
    have hs : x.size = 1 := by simpa using List.all_eq_true.1 sizes1 x hx
    unfold preB at hp
    rw [hs, Bool.and_eq_true] at hp
    exact ⟨x, hx, by simpa using hp.2⟩

theorem mem_take7 (j : Nat) (h : j < signsB.length) (h7 : j < 7) : signsB[j] ∈ signsB.take 7 := by
  rw [List.mem_take_iff_getElem]; exact ⟨j, by omega, rfl⟩
theorem mem_drop7 (j : Nat) (h : j < signsB.length) (h7 : ¬ j < 7) : signsB[j] ∈ signsB.drop 7 := by
  rw [List.mem_drop_iff_getElem]; exact ⟨j - 7, by omega, by congr 1; omega⟩
theorem of_take7 {x : ByteArray} (h : x ∈ signsB.take 7) : ∃ (i : Nat) (h' : i < signsB.length), i < 7 ∧ signsB[i] = x := by
  rw [List.mem_take_iff_getElem] at h
  obtain ⟨i, hi, he⟩ := h
  exact ⟨i, by omega, by omega, he⟩
theorem of_drop7 {x : ByteArray} (h : x ∈ signsB.drop 7) : ∃ (i : Nat) (h' : i < signsB.length), signsB[i] = x := by
  rw [List.mem_drop_iff_getElem] at h
  obtain ⟨i, hi, he⟩ := h
  exact ⟨7 + i, by omega, he⟩

theorem sgn_none (l : List UInt8) (h0 : 0 < l.length) (h : ∀ i (h : i < signsB.length), preB l signsB[i] = false) : signLen l = 0 := by
  refine signLen_no (fun h2 => ?_) h0 ?_
  · obtain ⟨x, hx, hp⟩ := (any2 l).1 h2
    obtain ⟨i, hi, _, rfl⟩ := of_take7 hx
    rw [h i hi] at hp; cases hp
  · cases hs : sign1B l[0].toNat with
    | false => rfl
    | true =>
      cases l with
      | nil => simp at h0
      | cons c r =>
        obtain ⟨x, hx, hp⟩ := (any1 c r).1 (by simpa using hs)
        obtain ⟨i, hi, rfl⟩ := of_drop7 hx
        rw [h i hi] at hp; cases hp
theorem sgn_some (l : List UInt8) (h0 : 0 < l.length) (j : Nat) (hj : j < signsB.length) (hno : ∀ i (h' : i < j), preB l (signsB[i]'(by omega)) = false) (hy : preB l signsB[j] = true) : signLen l = signsB[j].size := by
  by_cases h7 : j < 7
  · have hm := mem_take7 j hj h7
    have hs : signsB[j].size = 2 := by simpa using List.all_eq_true.1 sizes2 _ hm
    obtain ⟨a, b⟩ := (any2 l).2 ⟨_, hm, hy⟩
    rw [hs]; exact signLen_two a b
  · have hm := mem_drop7 j hj h7
    have hs : signsB[j].size = 1 := by simpa using List.all_eq_true.1 sizes1 _ hm
    rw [hs]
    refine signLen_one (fun h2 => ?_) h0 ?_
    · obtain ⟨x, hx, hp⟩ := (any2 l).1 h2
      obtain ⟨i, hi, hi7, rfl⟩ := of_take7 hx
      rw [hno i (by omega)] at hp; cases hp
    · cases l with
      | nil => simp at h0
      | cons c r => simpa using (any1 c r).2 ⟨_, hm, hy⟩

theorem one_at_sgn (s : ByteArray) (k : Nat) (w : World) (hs : s.size ≤ 281474976710656) (hk : k < s.size) (hl : letB s[k].toNat = false) (hd : digB s[k].toNat = false) : Calls Tryd.prog 22 #[.string s, .int .i64 k] w (OneOut (itemAt s k) w) := by
  have h0 : 0 < (s.data.toList.drop k).length := by rw [size_drop]; omega
  have ht : takeR (s.data.toList.drop k) = sgnR (s.data.toList.drop k) := takeR_sgn h0 (by rw [drop_head s k hk h0]; exact hl) (by rw [drop_head s k hk h0]; exact hd)
  refine (one_sgn s k w hs hk hl hd).mono fun e w' h => ?_
  obtain ⟨⟨j, hj, hno, hy, he⟩ | ⟨hno, he⟩, hb⟩ := h
  · have hy' := hy
    rw [stands_eq s k hk] at hy'
    have hL := sgn_some _ h0 j hj (fun i h' => by rw [← stands_eq s k hk]; exact hno i h') hy'
    have hsz : 0 < signsB[j].size := by
      have : signsB.all (fun x => decide (0 < x.size)) = true := by decide
      simpa using List.all_eq_true.1 this _ (List.getElem_mem hj)
    unfold preB at hy'
    rw [Bool.and_eq_true] at hy'
    have hle : signsB[j].size ≤ s.size - k := by have := hy'.1; rw [size_drop] at this; simpa using this
    have htx : signsB[j] = s.extract k (k + signsB[j].size) := by
      apply ByteArray.ext
      apply Array.toList_inj.1
      rw [ext_mid_list, show k + signsB[j].size - k = signsB[j].size from by omega]
      exact (beq_iff_eq.1 hy'.2).symm
    unfold sgnR at ht
    rw [hL, if_neg (by omega)] at ht
    refine oneOut_inr ht (by omega) ?_ hb
    rw [he]
    exact congrArg (fun z => Ending.returned (.tuple #[tokV 4 k z 0, .int .i64 0])) htx
  · have hL := sgn_none _ h0 (fun i h' => by rw [← stands_eq s k hk]; exact hno i h')
    unfold sgnR at ht
    rw [if_pos hL] at ht
    exact oneOut_inl ht (by decide) he hb

theorem one_any (s : ByteArray) (k : Nat) (w : World) (hs : s.size ≤ 281474976710656) (hk : k < s.size) : Calls Tryd.prog 22 #[.string s, .int .i64 k] w (OneOut (itemAt s k) w) := by
  cases hl : letB s[k].toNat with
  | true => exact one_at_let s k w hs hk hl
  | false =>
    cases hd : digB s[k].toNat with
    | true => exact one_at_dig s k w hs hk hl hd
    | false => exact one_at_sgn s k w hs hk hl hd

end Go.Proofs.YtdlddloggjckmaaDoor
