/- loops.Find. -/
import Derived.Test.YtgiokognngllcaaDoorTv
namespace Go.Proofs.YtgiokognngllcaaDoor
open Go.RowKit Go.Sort

/-- What the graph tells, plain. -/
theorem lg_ah {l : List Is} {rs : List Bool} (hr : IsR l rs) (hn : l.length ≤ 1024) {u : Nat} (hu : u < l.length) (v : Nat) : v ∈ Lg l (edg l rs) 2 u ↔ Ah l u v := by
  unfold Lg
  simp only [show ¬ (2 = 0) by decide, show ¬ (2 = 1) by decide, if_false]
  rw [mem_outL, mem_ahd hr hn]
  exact ⟨fun h => h.2, fun h => ⟨by omega, h⟩⟩
theorem lg_fr {l : List Is} {rs : List Bool} (hr : IsR l rs) (hn : l.length ≤ 1024) {x : Nat} (hx : x < l.length) (u : Nat) : u ∈ Lg l (edg l rs) 0 x ↔ Rch l u ∧ x ∈ nxt l u := by
  unfold Lg
  simp only [if_true]
  rw [mem_intL]
  constructor
  · intro h
    obtain ⟨h1, h2, _⟩ := mem_edg' hr h
    exact ⟨h1, h2⟩
  · rintro ⟨h1, h2⟩
    exact edg_mem hr (by omega) hn h1 h2
theorem lg_bk {l : List Is} {rs : List Bool} (hr : IsR l rs) (hn : l.length ≤ 1024) (h : Nat) : Lg l (edg l rs) 1 h = bks l h := by
  unfold Lg
  simp only [show ¬ (1 = 0) by decide, if_false, if_true]
  exact bks_edg hr hn h
theorem fb_up {l : List Is} {rs : List Bool} (hr : IsR l rs) (hn : l.length ≤ 1024) (v : Nat) (h : (fbL l l.length (edg l rs))[v]? = some true) : ∃ u, v < u ∧ Ah l u v := by
  have hv : v < l.length := by have := (List.getElem?_eq_some_iff.1 h).1; rwa [fbL_len] at this
  rw [fbL_at l _ hv] at h
  injection h with h
  unfold abvB at h
  obtain ⟨⟨a, b⟩, h1, h2⟩ := List.any_eq_true.1 h
  simp only [Bool.and_eq_true, beq_iff_eq, decide_eq_true_eq] at h2
  obtain ⟨rfl, h3⟩ := h2
  exact ⟨a, h3, ((mem_ahd hr hn).1 h1).2⟩
theorem fb_dn {l : List Is} {rs : List Bool} (hr : IsR l rs) (hn : l.length ≤ 1024) (v u : Nat) (h : v < u) (ha : Ah l u v) : (fbL l l.length (edg l rs))[v]? = some true := by
  have hv : v < l.length := nxt_lt ha.2.1
  rw [fbL_at l _ hv]
  congr 1
  unfold abvB
  exact List.any_eq_true.2 ⟨(u, v), (mem_ahd hr hn).2 ⟨by omega, ha⟩, by simp [h]⟩
theorem edg_len {l : List Is} {rs : List Bool} (hr : IsR l rs) : (edg l rs).length ≤ 2900 := by
  have := edU_len l rs rs.length
  have := hr.len
  unfold edg
  omega
theorem bks_rch {l : List Is} {h : Nat} (hb : bks l h ≠ []) : Rch l h ∧ 0 < l.length := by
  obtain ⟨u, us, e⟩ := List.exists_cons_of_ne_nil hb
  have hm : u ∈ bks l h := by rw [e]; simp
  obtain ⟨h1, h2⟩ := mem_bks' hm
  exact ⟨h1.2.left, by omega⟩
theorem mbs_rise (l : List Is) (h : Nat) : (mbs l h).Pairwise (· < ·) := List.Pairwise.filter _ List.pairwise_lt_range
theorem bks_rise (l : List Is) (h : Nat) : (bks l h).Pairwise (· < ·) := List.Pairwise.filter _ List.pairwise_lt_range
theorem ob_lst {W : World} {N n c : Nat} {l : List Bool} {a : Option Addr} (h : Ob N l (.slice a n c) W) : Lst W a (l.map bV) := by
  obtain ⟨a', k', e⟩ := gown_form h
  injection e with e1 e2 e3
  subst e2
  exact own_lst h
theorem fnd_long {l : List Is} (h : 1024 < l.length) : fndZ l = ⟨[], 97, 1024⟩ := by unfold fndZ; rw [if_pos h]
theorem fnd_knot {l : List Is} {v : Nat} (h : l.length ≤ 1024) (hk : kntZ l = some v) : fndZ l = ⟨[], 70, v⟩ := by unfold fndZ; rw [if_neg (by omega), hk]
theorem fnd_err {l : List Is} {p : Nat × Nat} (h : l.length ≤ 1024) (hk : kntZ l = none) (he : errH l (List.range l.length) = some p) : fndZ l = ⟨[], p.1, p.2⟩ := by unfold fndZ; rw [if_neg (by omega), hk]; simp only [he]
theorem fnd_ok {l : List Is} (h : l.length ≤ 1024) (hk : kntZ l = none) (he : errH l (List.range l.length) = none) : fndZ l = ⟨lopsZ l, 0, 0⟩ := by unfold fndZ; rw [if_neg (by omega), hk]; simp only [he]
theorem hdK_all (l : List Is) : hdK l l.length = hds l := rfl
/-- All parents are there. -/
theorem lops_done {l : List Is} {xs : List Lr} (hh : xs.map Lr.h = hds l) (hp : ∀ i x, xs[i]? = some x → x.p = parK (hds l) ((hds l).map (mbs l)) i (hds l).length) : xs.map (Lr.lo l) = lopsZ l := by
  have hl : xs.length = (hds l).length := by rw [← hh, List.length_map]
  refine List.ext_getElem? fun i => ?_
  by_cases hi : i < xs.length
  · unfold lopsZ
    rw [List.getElem?_map, List.getElem?_map, List.getElem?_range (by omega), List.getElem?_eq_getElem hi]
    have e : (hds l).getD i 0 = xs[i].h := by
      rw [← hh, List.getD_eq_getElem?_getD, List.getElem?_map, List.getElem?_eq_getElem hi]; rfl
    simp only [Option.map_some]
    unfold Lr.lo
    rw [e, hp i _ (List.getElem?_eq_getElem hi)]
  · rw [List.getElem?_eq_none (by rw [List.length_map]; omega), List.getElem?_eq_none (by unfold lopsZ; rw [List.length_map, List.length_range]; omega)]
theorem FI.par {l : List Is} {n N : Nat} {V : List Value} {xs : List Lr} {g m c : Nat} {vS : Value} {W : World} (h : FI l n N V xs xs (.slice (some ⟨g, 0, none⟩) m c) vS W) {i : Nat} {x : Lr} (hx : xs[i]? = some x) (p : Int) :
    FI l n N V (xs.set i { x with p := p }) (xs.set i { x with p := p }) (.slice (some ⟨g, 0, none⟩) m c) vS (W.setCell ⟨g, i * 4 + 1, none⟩ (.int .i64 p)) := by
  obtain ⟨cur, hc, hR⟩ := own_blk h.list
  obtain ⟨a', k', e⟩ := gown_form h.list
  injection e with e1 e2 e3
  subst e2
  have hil := (List.getElem?_eq_some_iff.1 hx).1
  have hget : ∀ (j : Nat) (y : Lr), (xs.set i { x with p := p })[j]? = some y → ∃ z, xs[j]? = some z ∧ y.h = z.h ∧ y.mv l = z.mv l ∧ y.bv l = z.bv l ∧ y.b = z.b := fun j y hy => by
    rw [List.getElem?_set] at hy
    split at hy
    · rename_i e
      subst e
      cases hy
      exact ⟨x, hx, rfl, rfl, rfl, rfl⟩
    · exact ⟨y, hy, rfl, rfl, rfl, rfl⟩
  have hmem : ∀ y ∈ xs.set i { x with p := p }, ∃ z ∈ xs, y.h = z.h ∧ y.mv l = z.mv l ∧ y.bv l = z.bv l ∧ y.b = z.b := fun y hy => by
    obtain ⟨j, hj⟩ := List.getElem?_of_mem hy
    obtain ⟨z, hz, hr⟩ := hget j y hj
    exact ⟨z, List.mem_of_getElem? hz, hr⟩
  have pw : ∀ {R : Lr → Lr → Prop}, (∀ a b a' b' : Lr, a.h = a'.h → a.mv l = a'.mv l → b.h = b'.h → b.mv l = b'.mv l → R a' b' → R a b) → xs.Pairwise R → (xs.set i { x with p := p }).Pairwise R := fun {R} hR hp => by
    rw [List.pairwise_iff_getElem] at hp ⊢
    intro a b ha hb hab
    obtain ⟨z, hz, z1, z2, _⟩ := hget a _ (List.getElem?_eq_getElem ha)
    obtain ⟨y, hy, y1, y2, _⟩ := hget b _ (List.getElem?_eq_getElem hb)
    rw [List.length_set] at ha hb
    have ea : xs[a] = z := (List.getElem?_eq_some_iff.1 hz).2
    have eb : xs[b] = y := (List.getElem?_eq_some_iff.1 hy).2
    have := hp a b ha hb hab
    rw [ea, eb] at this
    exact hR _ _ _ _ z1 z2 y1 y2 this
  refine ⟨?_, ?_, fun y hy => ?_, fun y hy => ?_, fun y hy => ?_, pw (fun a b a' b' _ e1 _ e2 h => by rw [e1, e2]; exact h) h.apm, fun y hy j hj => ?_, pw (fun a b a' b' e1 _ e2 _ h => by rw [e1, e2]; exact h) h.hh⟩
  · have := (World.ownsRow.stored h.list (i * 4 + 1) (.int .i64 p)).1
    rw [flat_set (Lr.cells_len l) xs i 1 x { x with p := p } (.int .i64 p) hx (by decide) rfl] at this
    rw [List.length_set]
    exact this
  · have : (xs.set i { x with p := p }).map Lr.sv = xs.map Lr.sv := by
      rw [List.map_set]
      refine List.ext_getElem? fun j => ?_
      rw [List.getElem?_set]
      split
      · rename_i e
        subst e
        rw [List.length_map, if_pos hil, List.getElem?_map, hx]
        rfl
      · rfl
    rw [List.length_set, this]
    exact own_set h.sets hc (by decide) _ _
  · obtain ⟨z, hz, e1, e2, _⟩ := hmem y hy
    rw [e1, e2]
    exact own_set (h.mem z hz) hc (by decide) _ _
  · obtain ⟨z, hz, e1, _, e3, _⟩ := hmem y hy
    rw [e1, e3]
    exact h.bac z hz
  · obtain ⟨z, hz, e1, _, _, e4⟩ := hmem y hy
    obtain ⟨s, h1, h2⟩ := h.mst z hz
    rw [e1, e4]
    exact ⟨s, h1.keep (heap_setCell_other W ⟨g, i * 4 + 1, none⟩ z.b _ (h1.ne hc)), h2⟩
  · obtain ⟨z, hz, _, e2, _⟩ := hmem y hy
    rw [e2]
    exact h.apv z hz j hj
end Go.Proofs.YtgiokognngllcaaDoor
