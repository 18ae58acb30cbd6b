/- How loops nest, plain: the loops around one are those around its parent, and the parent. -/
import Derived.Test.YtgiokognngllcaaDoorTw
namespace Go.Proofs.YtgiokognngllcaaDoor
open Go.RowKit Go.Sort

/-- Another loop has its head. -/
def Arn (hs : List Nat) (ms : List (List Nat)) (i k : Nat) : Prop := k ≠ i ∧ hs.getD i 0 ∈ ms.getD k []
theorem parK_spec (hs : List Nat) (ms : List (List Nat)) (i : Nat) : ∀ k, (parK hs ms i k = -1 ∧ ∀ j, j < k → ¬ Arn hs ms i j) ∨ ∃ p, p < k ∧ parK hs ms i k = (p : Int) ∧ Arn hs ms i p ∧ ∀ j, j < k → Arn hs ms i j → (ms.getD p []).length ≤ (ms.getD j []).length
  | 0 => .inl ⟨rfl, fun j h => absurd h (Nat.not_lt_zero _)⟩
  | k + 1 => by
    rw [parK]
    rcases parK_spec hs ms i k with ⟨e, h⟩ | ⟨p, hp, e, ha, hm⟩
    · by_cases hc : Arn hs ms i k
      · rw [if_pos ⟨hc.1, hc.2, .inl (by omega)⟩]
        refine .inr ⟨k, Nat.lt_succ_self _, rfl, hc, fun j hj hja => ?_⟩
        rcases Nat.lt_or_ge j k with hlt | hge
        · exact absurd hja (h j hlt)
        · rw [show j = k by omega]; exact Nat.le_refl _
      · rw [if_neg fun h2 => hc ⟨h2.1, h2.2.1⟩]
        refine .inl ⟨e, fun j hj hja => ?_⟩
        rcases Nat.lt_or_ge j k with hlt | hge
        · exact h j hlt hja
        · rw [show j = k by omega] at hja; exact hc hja
    · rw [e]
      by_cases hc : Arn hs ms i k ∧ (ms.getD k []).length < (ms.getD p []).length
      · rw [if_pos ⟨hc.1.1, hc.1.2, .inr (by simpa using hc.2)⟩]
        refine .inr ⟨k, Nat.lt_succ_self _, rfl, hc.1, fun j hj hja => ?_⟩
        rcases Nat.lt_or_ge j k with hlt | hge
        · have := hm j hlt hja; omega
        · rw [show j = k by omega]; exact Nat.le_refl _
      · rw [if_neg fun h2 => hc ⟨⟨h2.1, h2.2.1⟩, by rcases h2.2.2 with h3 | h3; · omega
                                                    · simpa using h3⟩]
        refine .inr ⟨p, Nat.lt_succ_of_lt hp, rfl, ha, fun j hj hja => ?_⟩
        rcases Nat.lt_or_ge j k with hlt | hge
        · exact hm j hlt hja
        · rw [show j = k by omega] at hja ⊢
          exact Nat.le_of_not_lt fun h2 => hc ⟨hja, h2⟩
theorem hds_nd (l : List Is) : (hds l).Nodup := List.nodup_range.filter _
theorem hds_mem {l : List Is} {h : Nat} (hm : h ∈ hds l) : bks l h ≠ [] ∧ Rch l h ∧ h < l.length := by
  unfold hds at hm
  rw [List.mem_filter, List.mem_range] at hm
  have hb : bks l h ≠ [] := by
    intro e
    rw [e] at hm
    exact absurd hm.2 (by decide)
  exact ⟨hb, (bks_rch hb).1, hm.1⟩
theorem hds_at {l : List Is} {i : Nat} (h : i < (hds l).length) : (hds l).getD i 0 ∈ hds l := by
  rw [List.getD_eq_getElem?_getD, List.getElem?_eq_getElem h]
  exact List.getElem_mem h
theorem hds_rise (l : List Is) : (hds l).Pairwise (· < ·) := List.pairwise_lt_range.filter _
theorem hds_ne {l : List Is} {i k : Nat} (hi : i < (hds l).length) (hk : k < (hds l).length) (h : i ≠ k) : (hds l).getD i 0 ≠ (hds l).getD k 0 := by
  rw [List.getD_eq_getElem?_getD, List.getD_eq_getElem?_getD, List.getElem?_eq_getElem hi, List.getElem?_eq_getElem hk]
  have hr := List.pairwise_iff_getElem.1 (hds_rise l)
  show (hds l)[i] ≠ (hds l)[k]
  rcases Nat.lt_or_gt_of_ne h with hlt | hgt
  · have := hr i k hi hk hlt; omega
  · have := hr k i hk hi hgt; omega
theorem mms_at {l : List Is} {k : Nat} (h : k < (hds l).length) : ((hds l).map (mbs l)).getD k [] = mbs l ((hds l).getD k 0) := by
  rw [List.getD_eq_getElem?_getD, List.getElem?_map, List.getD_eq_getElem?_getD, List.getElem?_eq_getElem h]; rfl
/-- The loops around one are those that have its parent's head. -/
theorem nest_same {l : List Is} {i p k : Nat} (hi : i < (hds l).length) (hp : p < (hds l).length) (hk : k < (hds l).length) (ha : Arn (hds l) ((hds l).map (mbs l)) i p)
    (hm : ∀ j, j < (hds l).length → Arn (hds l) ((hds l).map (mbs l)) i j → (((hds l).map (mbs l)).getD p []).length ≤ (((hds l).map (mbs l)).getD j []).length) :
    Arn (hds l) ((hds l).map (mbs l)) i k ↔ (hds l).getD p 0 ∈ ((hds l).map (mbs l)).getD k [] := by
  obtain ⟨_, ri, li⟩ := hds_mem (hds_at hi)
  obtain ⟨_, rp, lp⟩ := hds_mem (hds_at hp)
  obtain ⟨_, rk, lk⟩ := hds_mem (hds_at hk)
  by_cases e : p = k
  · subst e
    rw [mms_at hp]
    exact ⟨fun _ => mem_mbs.2 ⟨.head, lp⟩, fun _ => ha⟩
  have hbc := hds_ne hp hk e
  have hmp := hm k hk
  unfold Arn at *
  rw [mms_at hp] at ha hmp
  rw [mms_at hk] at hmp ⊢
  have hap := (mem_mbs.1 ha.2).1
  constructor
  · rintro ⟨h1, h2⟩
    have hck := (mem_mbs.1 h2).1
    rcases mbr_cross rp rk hbc hap hck with h | h
    · exact mem_mbs.2 ⟨h, lp⟩
    · refine Classical.byContradiction fun hno => ?_
      have hlt : (mbs l ((hds l).getD k 0)).length + 1 ≤ (mbs l ((hds l).getD p 0)).length := by
        have hsub : ∀ x ∈ (hds l).getD p 0 :: mbs l ((hds l).getD k 0), x ∈ mbs l ((hds l).getD p 0) := fun x hx => by
          rcases List.mem_cons.1 hx with rfl | hx
          · exact mem_mbs.2 ⟨.head, lp⟩
          · obtain ⟨h3, h4⟩ := mem_mbs.1 hx
            exact mem_mbs.2 ⟨h.within rk rp (Ne.symm hbc) h3, h4⟩
        exact sub_len (List.nodup_cons.2 ⟨hno, mbs_nd l _⟩) hsub
      have := hmp ⟨h1, h2⟩
      omega
  · intro h
    have hb := (mem_mbs.1 h).1
    refine ⟨fun e2 => ?_, mem_mbs.2 ⟨Mbr.within rp rk hbc hb hap, li⟩⟩
    subst e2
    exact hbc (mbr_both rp rk hap hb)
/-- In how many? As many as its parent's head, whichever way they are counted. -/
theorem nest_count {l : List Is} {i p : Nat} (hi : i < (hds l).length) (he : parK (hds l) ((hds l).map (mbs l)) i (hds l).length = (p : Int)) :
    p < (hds l).length ∧ Arn (hds l) ((hds l).map (mbs l)) i p ∧ ∀ k, k < (hds l).length → (Arn (hds l) ((hds l).map (mbs l)) i k ↔ (hds l).getD p 0 ∈ ((hds l).map (mbs l)).getD k []) := by
  rcases parK_spec (hds l) ((hds l).map (mbs l)) i (hds l).length with ⟨e, _⟩ | ⟨q, hq, e, ha, hm⟩
  · omega
  · obtain rfl : q = p := by omega
    exact ⟨hq, ha, fun k hk => nest_same hi hq hk ha hm⟩
theorem nest_none {l : List Is} {i : Nat} (he : parK (hds l) ((hds l).map (mbs l)) i (hds l).length = -1) : ∀ k, k < (hds l).length → ¬ Arn (hds l) ((hds l).map (mbs l)) i k := by
  rcases parK_spec (hds l) ((hds l).map (mbs l)) i (hds l).length with ⟨_, h⟩ | ⟨q, hq, e, _, _⟩
  · exact h
  · omega
/-- Two loops have no member together, or one has all of the other's. -/
theorem nest_cross {l : List Is} {i k n : Nat} (hi : i < (hds l).length) (hk : k < (hds l).length) (hn : k ≠ i) (hm : n ∈ mbs l ((hds l).getD i 0)) :
    (decide (n ∈ mbs l ((hds l).getD k 0)) ≠ decide ((hds l).getD i 0 ∈ mbs l ((hds l).getD k 0))) → n ∈ mbs l ((hds l).getD k 0) ∧ (hds l).getD k 0 ∈ mbs l ((hds l).getD i 0) := by
  obtain ⟨_, ri, li⟩ := hds_mem (hds_at hi)
  obtain ⟨_, rk, lk⟩ := hds_mem (hds_at hk)
  have hne := hds_ne hi hk (Ne.symm hn)
  have h1 := (mem_mbs.1 hm)
  intro hd
  by_cases h2 : n ∈ mbs l ((hds l).getD k 0)
  · have hno : (hds l).getD i 0 ∉ mbs l ((hds l).getD k 0) := fun h3 => hd (by rw [decide_eq_true h2, decide_eq_true h3])
    rcases mbr_cross ri rk hne h1.1 (mem_mbs.1 h2).1 with h | h
    · exact absurd (mem_mbs.2 ⟨h, li⟩) hno
    · exact ⟨h2, mem_mbs.2 ⟨h, lk⟩⟩
  · have hyes : (hds l).getD i 0 ∈ mbs l ((hds l).getD k 0) := Classical.byContradiction fun h3 => hd (by rw [decide_eq_false h2, decide_eq_false h3])
    exact absurd (mem_mbs.2 ⟨Mbr.within ri rk hne (mem_mbs.1 hyes).1 h1.1, h1.2⟩) h2
/-- From outside a loop is entered at its head alone. -/
theorem nest_enter {l : List Is} {k u v : Nat} (hu : Rch l u) (hv : v ∈ nxt l u) (hul : u < l.length) (h1 : u ∉ mbs l ((hds l).getD k 0)) (h2 : v ∈ mbs l ((hds l).getD k 0)) : v = (hds l).getD k 0 :=
  Classical.byContradiction fun hn => h1 (mem_mbs.2 ⟨.step (mem_mbs.1 h2).1 hn hu hv, hul⟩)
end Go.Proofs.YtgiokognngllcaaDoor
