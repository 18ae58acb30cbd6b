/- LoopsNest: rows of yes and no in memory; what Find tells, read. -/
import Derived.Test.YtgiokognngllcaaDoorWf
import Derived.Test.YtgiokognngllcaaDoorWb
namespace Go.Proofs.YtgiokognngllcaaDoor
open Go.RowKit Go.Sort

/-- Which numbers stand in a list (as stage 12's law has it). -/
def bgsV (n : Nat) (l : List Nat) : List Bool := (List.range n).map fun v => decide (v ∈ l)
theorem bgsV_len (n : Nat) (l : List Nat) : (bgsV n l).length = n := by simp [bgsV]
theorem bgsV_nil (n : Nat) : bgsV n [] = List.replicate n false := by simp [bgsV, List.map_const']
theorem bgsV_at {n v : Nat} (l : List Nat) (h : v < n) : (bgsV n l)[v]? = some (decide (v ∈ l)) := by simp [bgsV, h]
theorem bgsV_snoc {n : Nat} (l : List Nat) (x : Nat) : bgsV n (l ++ [x]) = (bgsV n l).set x true := by
  refine List.ext_getElem? fun i => ?_
  rw [List.getElem?_set, bgsV_len]
  by_cases hi : i < n
  · rw [bgsV_at _ hi, bgsV_at _ hi]
    by_cases e : x = i
    · subst e; rw [if_pos rfl, if_pos hi]; simp
    · rw [if_neg e]
      congr 1
      simp
      exact fun h => absurd h.symm e
  · rw [List.getElem?_eq_none (by rw [bgsV_len]; omega), List.getElem?_eq_none (l := bgsV n l) (by rw [bgsV_len]; omega)]
    split
    · rw [if_neg (by omega)]
    · rfl
/-- Rows of yes and no, read. -/
def RbR (W : World) (a : Option Addr) (m n : Nat) (M : Nat → List Nat) : Prop := ∀ j, j < m → ∃ b o aj cj, a = some ⟨b, o, none⟩ ∧ W.cell? ⟨b, o + j, none⟩ = some (.slice aj n cj) ∧ ∀ x, x < n → ∃ b' o', aj = some ⟨b', o', none⟩ ∧ W.cell? ⟨b', o' + x, none⟩ = some (.bool (decide (x ∈ M j)))
theorem RbR.stay {W W' : World} {a : Option Addr} {m n : Nat} {M : Nat → List Nat} (h : RbR W a m n M) (hb : Below W.heap.size W W') : RbR W' a m n M := fun j hj => by
  obtain ⟨b, o, aj, cj, e, hc, hl⟩ := h j hj
  refine ⟨b, o, aj, cj, e, cell_kept_below hc hb, fun x hx => ?_⟩
  obtain ⟨b', o', e', hc'⟩ := hl x hx
  exact ⟨b', o', e', cell_kept_below hc' hb⟩
/-- The rows while they are made. -/
structure NbI (N n : Nat) (M : Nat → List Nat) (k : Nat) (vs : List Value) (v : Value) (W : World) : Prop where
  row : W.ownsRow N 45 1 v k vs
  each : ∀ j, j < k → Ob N (bgsV n (M j)) (vs.getD j undef) W
theorem NbI.stay {N n k : Nat} {M : Nat → List Nat} {vs : List Value} {v : Value} {W W' : World} (h : NbI N n M k vs v W) (hb : Below W.heap.size W W') : NbI N n M k vs v W' :=
  ⟨own_stay h.row hb, fun j hj => own_stay (h.each j hj) hb⟩
theorem NbI.len {N n k : Nat} {M : Nat → List Nat} {vs : List Value} {v : Value} {W : World} (h : NbI N n M k vs v W) : vs.length = k := by have := h.row.1; omega
theorem NbI.more {N n k : Nat} {M : Nat → List Nat} {vs : List Value} {v v' vr : Value} {W W' : World} (h : NbI N n M k vs v W) (hr : Ob N (bgsV n (M k)) vr W) (hg : W.grownBy W' v.ownBlock) (ho : W'.ownsRow N 45 1 v' (k + 1) (vs ++ [vr])) : NbI N n M (k + 1) (vs ++ [vr]) v' W' := by
  have hl := h.len
  refine ⟨ho, fun j hj => ?_⟩
  rcases Nat.lt_or_ge j k with hlt | hge
  · rw [List.getD_eq_getElem?_getD, List.getElem?_append_left (by omega), ← List.getD_eq_getElem?_getD]
    exact own_keepT (h.each j hlt) (grown_keepT h.row hg (by decide))
  · obtain rfl : j = k := by omega
    have e : (vs ++ [vr]).getD j undef = vr := by
      rw [List.getD_eq_getElem?_getD, ← hl]; simp
    rw [e]
    exact own_keepT hr (grown_keepT h.row hg (by decide))
theorem NbI.rbr {N n k c : Nat} {M : Nat → List Nat} {vs : List Value} {a : Option Addr} {W : World} (h : NbI N n M k vs (.slice a k c) W) : RbR W a k n M := fun j hj => by
  have hl := h.len
  have hj2 : j < vs.length := by omega
  obtain ⟨g, rfl, hc, _⟩ := own_cell h.row (j := j) (u := vs.getD j undef) (vs_at hj2)
  have he := h.each j hj
  obtain ⟨aj, cj, e⟩ := gown_form he
  rw [bgsV_len] at e
  rw [e] at hc he
  refine ⟨g, 0, aj, cj, rfl, by rw [Nat.zero_add]; exact hc, fun x hx => ?_⟩
  obtain ⟨g', e', hc', _⟩ := ob_at he (bgsV_at (M j) hx)
  exact ⟨g', 0, e', by rw [Nat.zero_add]; exact hc'⟩
theorem Tryd.infoBs : (Tryd.prog.info? 45).map (fun i => (i.zero, i.size, i.bytes)) = some (some (.slice none 0 0), 1, 24) := by kernel_rfl
theorem bs_app {N n : Nat} {v : Value} {xs : List Value} {W : World} (h : W.ownsRow N 45 1 v n xs) (hN : N ≤ W.heap.size) (hl : n ≤ 1000000) (a : Option Addr) (k c : Nat) (ty : TypeId) :
    ∃ v' W', (Builtin.append_ #[44, 44] ty #[v, .slice (some ⟨W.heap.size, 0, none⟩) 1 1]).run Tryd.prog (W.alloc (.cells #[.slice a k c] 45)) = .ok v' W' ∧ W'.ownsRow N 45 1 v' (n + 1) (xs ++ [.slice a k c]) ∧ W.grownBy W' v.ownBlock :=
  app_one (t := 44) Tryd.underlying44 Tryd.infoBs rfl (by decide) h hN (by unfold maxLen; omega) (by omega) #[.slice a k c] rfl (by simp [Value.oneCell']) ty
/-- What Find tells, read: of each loop its head, its parent, its members, its back edges. -/
def LqR (W : World) (a : Option Addr) (m : Nat) (H : Nat → Nat) (P : Nat → Int) (M B : Nat → List Nat) : Prop := ∀ i, i < m → ∃ b o ma mc ba bc, a = some ⟨b, o, none⟩ ∧ W.cell? ⟨b, o + i * 4, none⟩ = some (.int .i64 (H i : Int)) ∧ W.cell? ⟨b, o + i * 4 + 1, none⟩ = some (.int .i64 (P i)) ∧ W.cell? ⟨b, o + i * 4 + 2, none⟩ = some (.slice ma (M i).length mc) ∧ W.cell? ⟨b, o + i * 4 + 3, none⟩ = some (.slice ba (B i).length bc) ∧ Lst W ma ((M i).map nV) ∧ Lst W ba ((B i).map nV)
theorem LqR.stay {W W' : World} {a : Option Addr} {m : Nat} {H : Nat → Nat} {P : Nat → Int} {M B : Nat → List Nat} (h : LqR W a m H P M B) (hb : Below W.heap.size W W') : LqR W' a m H P M B := fun i hi => by
  obtain ⟨b, o, ma, mc, ba, bc, e, c0, c1, c2, c3, m, k⟩ := h i hi
  exact ⟨b, o, ma, mc, ba, bc, e, cell_kept_below c0 hb, cell_kept_below c1 hb, cell_kept_below c2 hb, cell_kept_below c3 hb, m.stay hb, k.stay hb⟩
noncomputable def hdA (l : List Is) (i : Nat) : Nat := (hds l).getD i 0
noncomputable def paA (l : List Is) (i : Nat) : Int := parK (hds l) ((hds l).map (mbs l)) i (hds l).length
noncomputable def mbA (l : List Is) (i : Nat) : List Nat := mbs l (hdA l i)
noncomputable def bkA (l : List Is) (i : Nat) : List Nat := bks l (hdA l i)
theorem lops_at (l : List Is) {i : Nat} (h : i < (hds l).length) : ((lopsZ l).map loI)[i]? = some ⟨(hdA l i : Int), paA l i, (mbA l i).map (fun (n : Nat) => (n : Int)), (bkA l i).map (fun (n : Nat) => (n : Int))⟩ := by
  unfold lopsZ
  rw [List.map_map, List.getElem?_map, List.getElem?_range h]
  rfl
theorem lops_len (l : List Is) : ((lopsZ l).map loI).length = (hds l).length := by
  unfold lopsZ
  rw [List.length_map, List.length_map, List.length_range]
theorem lqr_of {l : List Is} {W : World} {a : Option Addr} (h : LpsI W a ((lopsZ l).map loI)) : LqR W a (hds l).length (hdA l) (paA l) (mbA l) (bkA l) := fun i hi => by
  obtain ⟨b, o, ma, mc, ba, bc, e, c0, c1, c2, c3, m, k⟩ := h i _ (lops_at l hi)
  simp only [List.length_map, map_nV] at c0 c1 c2 c3 m k
  exact ⟨b, o, ma, mc, ba, bc, e, c0, c1, c2, c3, m, k⟩
/-- In the right case all is told of the graph; in the other one nothing is. -/
theorem find_parts {l : List Is} : (fndZ l).e ≠ 0 ∧ (fndZ l).ls = [] ∨ (fndZ l).e = 0 ∧ (fndZ l).ls = lopsZ l ∧ l.length ≤ 1024 ∧ kntZ l = none ∧ errH l (List.range l.length) = none := by
  by_cases h : 1024 < l.length
  · rw [fnd_long h]; exact .inl ⟨by decide, rfl⟩
  · cases hk : kntZ l with
    | some v => rw [fnd_knot (by omega) hk]; exact .inl ⟨by simp, rfl⟩
    | none => cases he : errH l (List.range l.length) with
      | some p =>
        rw [fnd_err (by omega) hk he]
        refine .inl ⟨?_, rfl⟩
        have key : ∀ L : List Nat, errH l L = some p → p.1 ≠ 0 := by
          intro L
          induction L with
          | nil => intro h; cases h
          | cons x L ih =>
            intro h
            rw [errH] at h
            split at h
            · exact ih h
            · split at h
              · rename_i e h2
                cases h
                exact cnt_ne h2
              · exact ih h
        exact key _ he
      | none => rw [fnd_ok (by omega) hk he]; exact .inr ⟨rfl, rfl, by omega, rfl, rfl⟩
/-- How many of the first k. -/
def cnP (p : Nat → Bool) : Nat → Nat
  | 0 => 0
  | k + 1 => cnP p k + if p k = true then 1 else 0
theorem cnP_le (p : Nat → Bool) : ∀ k, cnP p k ≤ k
  | 0 => Nat.le_refl _
  | k + 1 => by rw [cnP]; have := cnP_le p k; split <;> omega
theorem cnP_same {p q : Nat → Bool} : ∀ k, (∀ j, j < k → p j = q j) → cnP p k = cnP q k
  | 0, _ => rfl
  | k + 1, h => by rw [cnP, cnP, cnP_same k fun j hj => h j (Nat.lt_succ_of_lt hj), h k (Nat.lt_succ_self _)]
theorem cnP_zero {p : Nat → Bool} : ∀ k, (∀ j, j < k → p j = false) → cnP p k = 0
  | 0, _ => rfl
  | k + 1, h => by rw [cnP, cnP_zero k fun j hj => h j (Nat.lt_succ_of_lt hj), h k (Nat.lt_succ_self _)]; rfl
theorem cnP_pos {p : Nat → Bool} : ∀ {k i : Nat}, i < k → p i = true → 0 < cnP p k
  | k + 1, i, h, hp => by
    rw [cnP]
    rcases Nat.lt_or_ge i k with hlt | hge
    · have := cnP_pos hlt hp; omega
    · rw [show i = k by omega] at hp
      rw [if_pos hp]; omega
theorem dpt_cn (ls : List Lp) (z : Int) : ∀ k, k ≤ ls.length → dpt (ls.take k) z = cnP (fun j => decide (z ∈ (ls.getD j ⟨0, 0, [], []⟩).ms)) k
  | 0, _ => by simp [dpt, cnP]
  | k + 1, h => by
    rw [dpt_snoc z (show k < ls.length by omega), dpt_cn ls z k (by omega), cnP, List.getD_eq_getElem?_getD, List.getElem?_eq_getElem (show k < ls.length by omega)]
    simp only [Option.getD_some, decide_eq_true_eq]
theorem dpt_head (l : List Is) (p : Nat) : dpt ((lopsZ l).map loI) (p : Int) = cnP (fun j => decide (p ∈ mbA l j)) (hds l).length := by
  have h := dpt_cn ((lopsZ l).map loI) (p : Int) _ (Nat.le_refl _)
  rw [List.take_of_length_le (Nat.le_refl _), lops_len] at h
  rw [h]
  refine cnP_same _ fun j hj => ?_
  rw [List.getD_eq_getElem?_getD, lops_at l hj]
  refine decide_eq_decide.2 ?_
  simp only [Option.getD_some, List.mem_map]
  exact ⟨fun ⟨x, hx, e⟩ => by rw [show p = x by omega]; exact hx, fun h => ⟨p, h, rfl⟩⟩
/-- The loops around i, counted. -/
noncomputable def arnB (l : List Is) (i k : Nat) : Bool := decide (k ≠ i ∧ hdA l i ∈ mbA l k)
theorem arnB_iff {l : List Is} {i k : Nat} (hk : k < (hds l).length) : arnB l i k = true ↔ Arn (hds l) ((hds l).map (mbs l)) i k := by
  unfold arnB Arn
  rw [decide_eq_true_eq, mms_at hk]
  rfl
theorem par_none {l : List Is} {i : Nat} (h : paA l i = -1) : cnP (arnB l i) (hds l).length = 0 := cnP_zero _ fun j hj => by
  have := nest_none h j hj
  cases e : arnB l i j
  · rfl
  · exact absurd ((arnB_iff hj).1 e) this
theorem par_some {l : List Is} {i : Nat} (hi : i < (hds l).length) (h : paA l i ≠ -1) : ∃ p : Nat, paA l i = (p : Int) ∧ p < (hds l).length ∧ p ≠ i ∧ hdA l i ∈ mbA l p ∧ 0 < cnP (arnB l i) (hds l).length ∧ dpt ((lopsZ l).map loI) (hdA l p : Int) = cnP (arnB l i) (hds l).length := by
  rcases parK_spec (hds l) ((hds l).map (mbs l)) i (hds l).length with ⟨e, _⟩ | ⟨p, hp, e, _⟩
  · exact absurd e h
  · obtain ⟨h1, h2, h3⟩ := nest_count hi e
    have hb := (arnB_iff (i := i) h1).2 h2
    have h2' := h2
    unfold Arn at h2'
    rw [mms_at h1] at h2'
    refine ⟨p, e, h1, h2'.1, h2'.2, cnP_pos h1 hb, ?_⟩
    rw [dpt_head]
    refine cnP_same _ fun j hj => ?_
    have h4 := h3 j hj
    rw [← arnB_iff hj, mms_at hj] at h4
    cases e2 : arnB l i j
    · rw [e2] at h4
      exact decide_eq_false fun h5 => Bool.noConfusion (h4.2 h5)
    · rw [e2] at h4
      exact decide_eq_true (h4.1 rfl)
theorem par_ge {l : List Is} {i : Nat} (hi : i < (hds l).length) : -1 ≤ paA l i ∧ paA l i < ((hds l).length : Int) := by
  by_cases h : paA l i = -1
  · omega
  · obtain ⟨p, e, h1, _⟩ := par_some hi h
    omega
theorem hdA_lt {l : List Is} {i : Nat} (h : i < (hds l).length) : hdA l i < l.length := (hds_mem (hds_at h)).2.2
theorem hdA_in {l : List Is} {i : Nat} (h : i < (hds l).length) : hdA l i ∈ mbA l i := mem_mbs.2 ⟨.head, hdA_lt h⟩
theorem hdA_up {l : List Is} {i : Nat} (h : i + 1 < (hds l).length) : hdA l i < hdA l (i + 1) := by
  have hr := List.pairwise_iff_getElem.1 (hds_rise l) i (i + 1) (by omega) h (by omega)
  unfold hdA
  rw [List.getD_eq_getElem?_getD, List.getD_eq_getElem?_getD, List.getElem?_eq_getElem h, List.getElem?_eq_getElem (show i < (hds l).length by omega)]
  exact hr
theorem rise_at {L : List Nat} (h : L.Pairwise (· < ·)) {i x y : Nat} (hx : L[i]? = some x) (hy : L[i + 1]? = some y) : x < y := by
  obtain ⟨h1, rfl⟩ := List.getElem?_eq_some_iff.1 hx
  obtain ⟨h2, rfl⟩ := List.getElem?_eq_some_iff.1 hy
  exact List.pairwise_iff_getElem.1 h i (i + 1) h1 h2 (by omega)
end Go.Proofs.YtgiokognngllcaaDoor
