/- What the document's own Tree holds: plain, and in memory. -/
import Derived.Test.YtlnjhnbiljkbmaaDoorQy
namespace Go.Proofs.YtlnjhnbiljkbmaaDoor
open Go.RowKit Go.Shelf

/-- Whom a dominates, of n; how many of the first a dominate each. -/
noncomputable def rowL (l : List Is) (n a : Nat) : List Bool := (List.range n).map fun (b : Nat) => domb l (a : Int) (b : Int)
noncomputable def cntA (l : List Is) (a b : Nat) : Nat := ((List.range a).filter fun (x : Nat) => domb l (x : Int) (b : Int)).length
noncomputable def manL (l : List Is) (n a : Nat) : List Nat := (List.range n).map fun (b : Nat) => cntA l a b
theorem rowL_len (l : List Is) (n a : Nat) : (rowL l n a).length = n := by simp [rowL]
theorem rowL_at {l : List Is} {n a b : Nat} (h : b < n) : (rowL l n a)[b]? = some (domb l (a : Int) (b : Int)) := by
  unfold rowL; rw [List.getElem?_map, List.getElem?_range h]; rfl
theorem manL_len (l : List Is) (n a : Nat) : (manL l n a).length = n := by simp [manL]
theorem manL_at {l : List Is} {n a b : Nat} (h : b < n) : (manL l n a)[b]? = some (cntA l a b) := by
  unfold manL; rw [List.getElem?_map, List.getElem?_range h]; rfl
theorem cntA_succ (l : List Is) (a b : Nat) : cntA l (a + 1) b = if domb l (a : Int) (b : Int) = true then cntA l a b + 1 else cntA l a b := by
  unfold cntA
  rw [List.range_succ, List.filter_append, List.length_append]
  cases h : domb l (a : Int) (b : Int) <;> simp [h]
theorem cntA_le (l : List Is) (a b : Nat) : cntA l a b ≤ a := by
  unfold cntA
  refine Nat.le_trans (List.length_filter_le _ _) ?_
  rw [List.length_range]
  exact Nat.le_refl _
theorem manL_zero (l : List Is) (n : Nat) : manL l n 0 = List.replicate n 0 := by
  refine List.ext_getElem? fun b => ?_
  by_cases h : b < n
  · rw [manL_at h, List.getElem?_replicate, if_pos h]; rfl
  · rw [List.getElem?_eq_none (by rw [manL_len]; omega), List.getElem?_eq_none (by simp; omega)]
/-- While a's row is filled: the first b are done. -/
noncomputable def manP (l : List Is) (n a b : Nat) : List Nat := (manL l n (a + 1)).take b ++ (manL l n a).drop b
noncomputable def rowP (l : List Is) (n a b : Nat) : List Bool := (rowL l n a).take b ++ List.replicate (n - b) false
theorem manP_zero (l : List Is) (n a : Nat) : manP l n a 0 = manL l n a := by simp [manP]
theorem manP_all (l : List Is) (n a : Nat) : manP l n a n = manL l n (a + 1) := by
  unfold manP; rw [List.take_of_length_le (by rw [manL_len]; omega), List.drop_of_length_le (by rw [manL_len]; omega), List.append_nil]
theorem manP_len {l : List Is} {n a b : Nat} (h : b ≤ n) : (manP l n a b).length = n := by
  unfold manP; rw [List.length_append, List.length_take, List.length_drop, manL_len, manL_len]; omega
theorem manP_at {l : List Is} {n a b : Nat} (h : b < n) : (manP l n a b)[b]? = some (cntA l a b) := by
  unfold manP
  have hl : ((manL l n (a + 1)).take b).length = b := by rw [List.length_take, manL_len]; omega
  rw [List.getElem?_append_right (by omega), hl, Nat.sub_self, List.getElem?_drop, Nat.add_zero, manL_at h]
theorem manP_succ {l : List Is} {n a b : Nat} (h : b < n) : (manP l n a b).set b (cntA l (a + 1) b) = manP l n a (b + 1) := by
  have hl : ((manL l n (a + 1)).take b).length = b := by rw [List.length_take, manL_len]; omega
  have h1 : b < (manL l n a).length := by rw [manL_len]; exact h
  have h2 : b < (manL l n (a + 1)).length := by rw [manL_len]; exact h
  have e2 : (manL l n (a + 1))[b] = cntA l (a + 1) b := by
    have := manL_at (l := l) (a := a + 1) h
    rw [List.getElem?_eq_getElem h2] at this
    exact Option.some.inj this
  unfold manP
  rw [List.set_append_right _ _ (by omega), hl, Nat.sub_self, List.drop_eq_getElem_cons h1, List.set_cons_zero, List.take_succ_eq_append_getElem h2, e2, List.append_assoc]
  rfl
theorem manP_same {l : List Is} {n a b : Nat} (h : b < n) (hd : domb l (a : Int) (b : Int) = false) : manP l n a (b + 1) = manP l n a b := by
  have e : cntA l (a + 1) b = cntA l a b := by rw [cntA_succ, hd]; rfl
  rw [← manP_succ h, e]
  refine List.ext_getElem? fun i => ?_
  rw [List.getElem?_set, manP_len (by omega)]
  by_cases hi : b = i
  · subst hi; rw [if_pos rfl, if_pos h, manP_at h]
  · rw [if_neg hi]
theorem rowP_zero (l : List Is) (n a : Nat) : rowP l n a 0 = List.replicate n false := by simp [rowP]
theorem rowP_all (l : List Is) (n a : Nat) : rowP l n a n = rowL l n a := by
  unfold rowP; rw [List.take_of_length_le (by rw [rowL_len]; omega), Nat.sub_self]; simp
theorem rowP_len {l : List Is} {n a b : Nat} (h : b ≤ n) : (rowP l n a b).length = n := by
  unfold rowP; rw [List.length_append, List.length_take, List.length_replicate, rowL_len]; omega
theorem rowP_succ {l : List Is} {n a b : Nat} (h : b < n) : (rowP l n a b).set b (domb l (a : Int) (b : Int)) = rowP l n a (b + 1) := by
  have h2 : b < (rowL l n a).length := by rw [rowL_len]; exact h
  have e2 : (rowL l n a)[b] = domb l (a : Int) (b : Int) := by
    have := rowL_at (l := l) (a := a) h
    rw [List.getElem?_eq_getElem h2] at this
    exact Option.some.inj this
  have := part_set (rowL l n a) false (rowL_len l n a) h
  rw [e2] at this
  exact this
/-- Of what cannot be reached nothing is dominated. -/
theorem rowL_no {l : List Is} {n a : Nat} (h : ¬ Rch l a) : rowL l n a = List.replicate n false ∧ manL l n (a + 1) = manL l n a := by
  have hd : ∀ b : Nat, domb l (a : Int) (b : Int) = false := fun b => domb_false fun hb => h (by simpa using hb.2.2.2.2.left)
  constructor
  · refine List.ext_getElem? fun b => ?_
    by_cases hb : b < n
    · rw [rowL_at hb, hd, List.getElem?_replicate, if_pos hb]
    · rw [List.getElem?_eq_none (by rw [rowL_len]; omega), List.getElem?_eq_none (by simp; omega)]
  · unfold manL
    refine List.map_congr_left fun b _ => ?_
    rw [cntA_succ, hd]; rfl
theorem cntA_dm {l : List Is} (h0 : 0 < l.length) (h1 : l.length ≤ 1024) (b : Nat) : cntA l l.length b = dmC l b := by
  unfold cntA dmC dmL
  congr 1
  refine List.filter_congr fun a _ => ?_
  rw [Bool.eq_iff_iff, domb_true, @decide_eq_true_iff _ (Classical.propDecidable _)]
  unfold domB
  simp only [Int.toNat_natCast]
  exact ⟨fun h => h.2.2.2.2, fun h => ⟨h0, h1, by omega, by omega, h⟩⟩
/-- The best of the first a. -/
def Bst (l : List Is) (b a : Nat) (r : Int) : Prop := (r = -1 ∧ ∀ x, x < a → x ≠ b → ¬ Dm l x b) ∨ ∃ k : Nat, r = (k : Int) ∧ k < a ∧ k ≠ b ∧ Dm l k b ∧ ∀ x, x < a → x ≠ b → Dm l x b → dmC l x ≤ dmC l k
theorem bst_zero (l : List Is) (b : Nat) : Bst l b 0 (-1) := .inl ⟨rfl, fun x hx => by omega⟩
theorem Bst.skip {l : List Is} {b a : Nat} {r : Int} (h : Bst l b a r) (hn : a = b ∨ ¬ Dm l a b) : Bst l b (a + 1) r := by
  rcases h with ⟨e, h⟩ | ⟨k, e, h1, h2, h3, h4⟩
  · refine .inl ⟨e, fun x hx hxb => ?_⟩
    by_cases e2 : x = a
    · subst e2; exact hn.resolve_left hxb
    · exact h x (by omega) hxb
  · refine .inr ⟨k, e, by omega, h2, h3, fun x hx hxb hd => ?_⟩
    by_cases e2 : x = a
    · subst e2; exact absurd hd (hn.resolve_left hxb)
    · exact h4 x (by omega) hxb hd
theorem Bst.first {l : List Is} {b a : Nat} (h : Bst l b a (-1)) (hn : a ≠ b) (hd : Dm l a b) : Bst l b (a + 1) (a : Int) := by
  rcases h with ⟨_, h⟩ | ⟨k, e, _⟩
  · refine .inr ⟨a, rfl, by omega, hn, hd, fun x hx hxb hxd => ?_⟩
    by_cases e2 : x = a
    · subst e2; exact Nat.le_refl _
    · exact absurd hxd (h x (by omega) hxb)
  · omega
theorem Bst.more {l : List Is} {b a k : Nat} (h : Bst l b a (k : Int)) (hn : a ≠ b) (hd : Dm l a b) (hm : dmC l k < dmC l a) : Bst l b (a + 1) (a : Int) := by
  rcases h with ⟨e, _⟩ | ⟨k', e, h1, h2, h3, h4⟩
  · omega
  · obtain rfl : k = k' := by omega
    refine .inr ⟨a, rfl, by omega, hn, hd, fun x hx hxb hxd => ?_⟩
    by_cases e2 : x = a
    · subst e2; exact Nat.le_refl _
    · have := h4 x (by omega) hxb hxd; omega
theorem Bst.less {l : List Is} {b a k : Nat} (h : Bst l b a (k : Int)) (hm : ¬ dmC l k < dmC l a) : Bst l b (a + 1) (k : Int) := by
  rcases h with ⟨e, _⟩ | ⟨k', e, h1, h2, h3, h4⟩
  · omega
  · obtain rfl : k = k' := by omega
    refine .inr ⟨k, rfl, by omega, h2, h3, fun x hx hxb hxd => ?_⟩
    by_cases e2 : x = a
    · subst e2; omega
    · exact h4 x (by omega) hxb hxd
theorem Bst.tr {l : List Is} {b : Nat} {r : Int} (h0 : 0 < l.length) (h : Bst l b l.length r) : TrAt l b r := by
  rcases h with ⟨e, h⟩ | ⟨k, e, h1, h2, h3, h4⟩
  · refine .inl ⟨e, fun ⟨hr, hz⟩ => h 0 h0 (Ne.symm hz) (dm_zero hr)⟩
  · exact .inr ⟨k, e, idm_most h0 h3 h2 fun a ha hn => h4 a (ha.left.lt h0) hn ha⟩
end Go.Proofs.YtlnjhnbiljkbmaaDoor
