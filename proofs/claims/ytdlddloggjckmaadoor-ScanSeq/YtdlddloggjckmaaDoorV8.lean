/- soffitlaw01.ScanWords answers true at every text: the ways put together. -/
import Derived.Test.YtdlddloggjckmaaDoorW8
namespace Go.Proofs.YtdlddloggjckmaaDoor
open Go.RowKit

theorem word_short {l : List UInt8} (h : wordB l = true) : l.length ≤ 16 := by
  have hm : l ∈ wordList := by
    rw [wordB_eq, List.any_eq_true] at h
    obtain ⟨x, hx, he⟩ := h
    rw [← beq_iff_eq.1 he]; exact hx
  have hf := List.all_eq_true.1 word_facts _ hm
  simp only [Bool.and_eq_true, decide_eq_true_eq] at hf
  exact hf.1.2
theorem name_short {l : List UInt8} (h : nameB l = true) : l.length ≤ 16 := by
  cases l with
  | nil => simp
  | cons c r => simp only [nameB, Bool.and_eq_true, decide_eq_true_eq] at h; exact h.1.1.1

theorem bool_false {b : Bool} (h : b = true → False) : b = false := by cases b; rfl; exact (h rfl).elim

/-- The cells of a row that is owned. -/
theorem owns_cells {W : World} {base k : Nat} {v : Value} {xs : List Value} (h : W.ownsRow base 33 4 v k xs) (hk : 0 < k) :
    ∃ g cap, v = .slice (some ⟨g, 0, none⟩) k cap ∧ base ≤ g ∧ g < W.heap.size ∧ k ≤ cap ∧ ∀ j u, xs[j]? = some u → W.cell? ⟨g, j, none⟩ = some u := by
  rcases h.2 with ⟨_, h0⟩ | ⟨g, cap, cur, rfl, hg, hc, hcap, _, hsz, ht⟩
  · omega
  · refine ⟨g, cap, rfl, hg, (Array.getElem?_eq_some_iff.1 hc).1, hcap, fun j u hj => ?_⟩
    have hj' : cur[j]? = some u := by
      rw [← ht, List.getElem?_take] at hj
      split at hj
      · simpa using hj
      · cases hj
    simp [World.cell?, hc, hj']

theorem scanWords_any (s : ByteArray) (w : World) (hv : VarOk w) : Calls Tryd.prog 8 #[.string s] w fun e w' => e = .returned (.bool true) ∧ Below w.heap.size w w' := by
  have hl := ba_len s
  have c16 := word_any s
  have c17 := rWord_any s
  have c18 := name_any s
  have c19 := rName_any s
  by_cases hbig : s.size ≤ 65536
  · by_cases hE : ∀ y ∈ items s, y.err = 0
    · by_cases hn : (items s).length = 1
      · obtain ⟨x, hx⟩ : ∃ x, items s = [x] := by
          cases h : items s with
          | nil => rw [h] at hn; simp at hn
          | cons x r => cases r with
            | nil => exact ⟨x, rfl⟩
            | cons _ _ => rw [h] at hn; simp at hn
        have he : x.err = 0 := hE x (by rw [hx]; simp)
        have hkinds : ((x.text.toList == s.toList) && x.kind == 3) = wordB s.data.toList ∧ ((x.text.toList == s.toList) && x.kind == 1) = nameB s.data.toList := by
          cases hab : (x.text.toList == s.toList) with
          | true =>
            have ht : x.text = s := by
              rw [ba_list, ba_list] at hab
              apply ByteArray.ext; exact Array.toList_inj.1 (beq_iff_eq.1 hab)
            obtain ⟨k1, k2⟩ := single_kind s x hx he ht
            rw [k1, k2]; exact ⟨Bool.true_and _, Bool.true_and _⟩
          | false =>
            have hno : ∀ k, items s = [⟨k, 0, s, 0, 0⟩] → False := fun k hk => by
              rw [hx, List.cons.injEq] at hk
              rw [hk.1] at hab
              simp at hab
            refine ⟨?_, ?_⟩
            · rw [bool_false (fun h => hno 3 (items_word s h))]; rfl
            · rw [bool_false (fun h => hno 1 (items_name s h))]; rfl
        refine words_one s x _ _ _ w hv rfl hkinds.1 hkinds.2 c16 c17 c18 c19 fun w hv => (all_any s w hbig hv).mono fun e w' h => ?_
        obtain ⟨hb, ⟨pre, y, h1, _, h3, _⟩ | ⟨_, v, h2, h3⟩⟩ := h
        · exact (h3 (hE y (by rw [h1]; simp))).elim
        · rw [hx] at h3
          obtain ⟨g, cap, rfl, _, _, _, hc⟩ := owns_cells h3 (by simp)
          exact ⟨g, cap, h2, hb, hc 0 _ rfl, hc 2 _ rfl⟩
      · have hno : ∀ k, items s = [⟨k, 0, s, 0, 0⟩] → False := fun k hk => hn (by rw [hk]; rfl)
        have hw := bool_false (fun h => hno 3 (items_word s h))
        have hnm := bool_false (fun h => hno 1 (items_name s h))
        rw [hw] at c16 c17
        rw [hnm] at c18 c19
        refine words_many s (items s).length w hv (by rw [beq_eq_false_iff_ne]; omega) c16 c17 c18 c19 fun w hv => (all_any s w hbig hv).mono fun e w' h => ?_
        obtain ⟨hb, ⟨pre, y, h1, _, h3, _⟩ | ⟨_, v, h2, h3⟩⟩ := h
        · exact (h3 (hE y (by rw [h1]; simp))).elim
        · rcases h3.2 with ⟨rfl, h0⟩ | ⟨g, cap, _, rfl, _⟩
          · rw [h0]; exact ⟨none, 0, h2, hb⟩
          · exact ⟨_, cap, h2, hb⟩
    · have hno : ∀ k, items s = [⟨k, 0, s, 0, 0⟩] → False := fun k hk => hE (by rw [hk]; simp)
      have hw := bool_false (fun h => hno 3 (items_word s h))
      have hnm := bool_false (fun h => hno 1 (items_name s h))
      rw [hw] at c16 c17
      rw [hnm] at c18 c19
      rcases List.eq_nil_or_concat (items s) with h0 | ⟨pre0, x0, h0⟩
      · exact (hE (by rw [h0]; simp)).elim
      · have herr : x0.err ≠ 0 := by
          intro hx
          refine hE fun y hy => ?_
          rw [h0, List.concat_eq_append] at hy
          rcases List.mem_append.1 hy with h | h
          · refine Classical.byContradiction fun hne => ?_
            obtain ⟨a, b, hab⟩ := List.append_of_mem h
            have h0' : items s = a ++ y :: (b ++ [x0]) := by rw [h0, List.concat_eq_append, hab]; simp
            have := itemsFrom_last s _ _ a y (b ++ [x0]) h0' hne
            simp at this
          · rw [List.mem_singleton.1 h]; exact hx
        refine words_err s x0.err x0.at_ w hv (by rw [beq_eq_false_iff_ne]; exact herr) c16 c17 c18 c19 fun w hv => (all_any s w hbig hv).mono fun e w' h => ?_
        obtain ⟨hb, ⟨pre, y, h1, _, h3, h4⟩ | ⟨h, _⟩⟩ := h
        · rw [h0, List.concat_eq_append] at h1
          have := List.append_inj_right' h1 rfl
          rw [List.cons.injEq] at this
          rw [this.1]; exact ⟨h4, hb⟩
        · exact (hE h).elim
  · have hw : wordB s.data.toList = false := bool_false fun h => by have := word_short h; omega
    have hnm : nameB s.data.toList = false := bool_false fun h => by have := name_short h; omega
    rw [hw] at c16 c17
    rw [hnm] at c18 c19
    exact words_err s 4 65536 w hv rfl c16 c17 c18 c19 fun w _ => all_long s w (by omega)

end Go.Proofs.YtdlddloggjckmaaDoor
