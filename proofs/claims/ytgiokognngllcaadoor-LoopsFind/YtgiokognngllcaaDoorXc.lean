/- ref14.Find: what it has in memory. -/
import Derived.Test.YtgiokognngllcaaDoorWj
import Derived.Test.YtgiokognngllcaaDoorWi
namespace Go.Proofs.YtgiokognngllcaaDoor
open Go.RowKit Go.Sort

/-- What is told, in memory (as OwnL, but for what lies apart). -/
structure OwnR (l : List Is) (N : Nat) (xs : List Lr) (v : Value) (W : World) : Prop where
  list : W.ownsRow N 40 4 v xs.length (xs.flatMap (Lr.cells l))
  mem : ∀ x ∈ xs, On N (mbs l x.h) (x.mv l) W
  bac : ∀ x ∈ xs, On N (bks l x.h) (x.bv l) W
theorem OwnL.ownR {l : List Is} {N : Nat} {xs : List Lr} {v : Value} {W : World} (h : OwnL l N xs v W) : OwnR l N xs v W := ⟨h.list, h.mem, h.bac⟩
theorem OwnR.stay {l : List Is} {N : Nat} {xs : List Lr} {v : Value} {W W' : World} (h : OwnR l N xs v W) (hb : Below W.heap.size W W') : OwnR l N xs v W' :=
  ⟨own_stay h.list hb, fun x hx => own_stay (h.mem x hx) hb, fun x hx => own_stay (h.bac x hx) hb⟩
theorem OwnR.mono {l : List Is} {N N' : Nat} {xs : List Lr} {v : Value} {W : World} (h : OwnR l N xs v W) (hN : N' ≤ N) : OwnR l N' xs v W :=
  ⟨own_mono h.list hN, fun x hx => own_mono (h.mem x hx) hN, fun x hx => own_mono (h.bac x hx) hN⟩
/-- What lies from N on lies still. -/
theorem own_still {W W' : World} {N n sz : Nat} {T : TypeId} {v : Value} {xs : List Value} (h : W.ownsRow N T sz v n xs) (hk : ∀ k, N ≤ k → k < W.heap.size → W'.heap[k]? = W.heap[k]?) : W'.ownsRow N T sz v n xs := by
  refine ⟨h.1, ?_⟩
  rcases h.2 with h0 | ⟨g, cap, cur, e, h1, h2, h3⟩
  · exact .inl h0
  · exact .inr ⟨g, cap, cur, e, h1, (hk g h1 (Array.getElem?_eq_some_iff.1 h2).1).trans h2, h3⟩
theorem OwnR.high {l : List Is} {N : Nat} {xs : List Lr} {v : Value} {W W' : World} (h : OwnR l N xs v W) (hk : ∀ k, N ≤ k → k < W.heap.size → W'.heap[k]? = W.heap[k]?) : OwnR l N xs v W' :=
  ⟨own_still h.list hk, fun x hx => own_still (h.mem x hx) hk, fun x hx => own_still (h.bac x hx) hk⟩
theorem ownR_lps {l : List Is} {N : Nat} {xs : List Lr} {v : Value} {W : World} (h : OwnR l N xs v W) : ∃ a c, v = .slice a xs.length c ∧ LpsI W a (xs.map fun x => loI (x.lo l)) := by
  obtain ⟨a, c, rfl⟩ := gown_form h.list
  refine ⟨a, c, rfl, fun i y hy => ?_⟩
  rw [List.getElem?_map] at hy
  obtain ⟨x, hx, rfl⟩ : ∃ x, xs[i]? = some x ∧ loI (x.lo l) = y := by
    cases hh : xs[i]? with
    | none => rw [hh] at hy; cases hy
    | some x => rw [hh] at hy; exact ⟨x, rfl, by injection hy⟩
  obtain ⟨g, rfl⟩ : ∃ g, a = some ⟨g, 0, none⟩ := by
    rcases h.list.2 with ⟨_, e⟩ | ⟨g, cap, cur, e, _⟩
    · have h1 := h.list.1
      have := (List.getElem?_eq_some_iff.1 hx).1
      omega
    · injection e with e1 _ _
      exact ⟨g, e1⟩
  have hc : ∀ j v, (x.cells l)[j]? = some v → W.cell? ⟨g, 0 + i * 4 + j, none⟩ = some v := fun j v hj => by
    have := h.list.cells (g := g) rfl _ _ (flat_at (Lr.cells_len l) xs i j x v hx hj)
    rw [Addr.add_lit, Nat.zero_add] at this
    rw [Nat.zero_add]
    exact this
  have hm := List.mem_of_getElem? hx
  have l1 := own_lst (h.mem x hm)
  have l2 := own_lst (h.bac x hm)
  refine ⟨g, 0, x.ma, x.mc, x.ba, x.bc, rfl, hc 0 _ rfl, hc 1 _ rfl, ?_, ?_, ?_, ?_⟩
  · show _ = some (Value.slice x.ma ((mbs l x.h).map (fun (n : Nat) => (n : Int))).length x.mc)
    rw [List.length_map]
    exact hc 2 _ rfl
  · show _ = some (Value.slice x.ba ((bks l x.h).map (fun (n : Nat) => (n : Int))).length x.bc)
    rw [List.length_map]
    exact hc 3 _ rfl
  · show Lst W x.ma (((mbs l x.h).map (fun (n : Nat) => (n : Int))).map iV)
    rw [map_nV]
    exact l1
  · show Lst W x.ba (((bks l x.h).map (fun (n : Nat) => (n : Int))).map iV)
    rw [map_nV]
    exact l2
/-- One of them, read. -/
theorem OwnR.at' {l : List Is} {N c : Nat} {a : Option Addr} {xs : List Lr} {W : World} {m : Nat} (h : OwnR l N xs (.slice a m c) W) {i : Nat} {x : Lr} (hx : xs[i]? = some x) : ∃ g, a = some ⟨g, 0, none⟩ ∧ N ≤ g ∧ W.cell? ⟨g, i * 4, none⟩ = some (.int .i64 (x.h : Int)) ∧ W.cell? ⟨g, i * 4 + 1, none⟩ = some (.int .i64 x.p) ∧ W.cell? ⟨g, i * 4 + 2, none⟩ = some (.slice x.ma (mbs l x.h).length x.mc) ∧ (∀ j, W.frozen? ⟨g, j, none⟩ = false) ∧ Lst W x.ma ((mbs l x.h).map nV) := by
  rcases h.list.2 with ⟨e, e0⟩ | ⟨g, cap, cur, e, hN, hcu, _⟩
  · have h1 := h.list.1
    have := (List.getElem?_eq_some_iff.1 hx).1
    omega
  · injection e with e1 e2 e3
    subst e1
    subst e2
    have hc : ∀ j v, (x.cells l)[j]? = some v → W.cell? ⟨g, i * 4 + j, none⟩ = some v := fun j v hj => by
      have := h.list.cells (g := g) rfl _ _ (flat_at (Lr.cells_len l) xs i j x v hx hj)
      rw [Addr.add_lit, Nat.zero_add] at this
      exact this
    exact ⟨g, rfl, hN, hc 0 _ rfl, hc 1 _ rfl, hc 2 _ rfl, fun j => Lib.frozen_of_heap hcu _, own_lst (h.mem x (List.mem_of_getElem? hx))⟩
/-- One more. -/
theorem OwnR.more {l : List Is} {N : Nat} {xs : List Lr} {v v' : Value} {W W' : World} {x : Lr} (h : OwnR l N xs v W) (hg : W.grownBy W' v.ownBlock) (ho : W'.ownsRow N 40 4 v' (xs.length + 1) (xs.flatMap (Lr.cells l) ++ x.cells l)) (hm : On N (mbs l x.h) (x.mv l) W) (hb : On N (bks l x.h) (x.bv l) W) : OwnR l N (xs ++ [x]) v' W' := by
  have hk := fun {T : TypeId} (hT : T ≠ 40) => grown_keepT (T := T) h.list hg hT
  refine ⟨by rw [List.length_append, List.flatMap_append]; simpa using ho, fun y hy => ?_, fun y hy => ?_⟩
  · rcases List.mem_append.1 hy with hy | hy
    · exact own_keepT (h.mem y hy) (hk (by decide))
    · rw [List.mem_singleton] at hy; subst hy; exact own_keepT hm (hk (by decide))
  · rcases List.mem_append.1 hy with hy | hy
    · exact own_keepT (h.bac y hy) (hk (by decide))
    · rw [List.mem_singleton] at hy; subst hy; exact own_keepT hb (hk (by decide))
/-- A parent written. -/
theorem OwnR.par {l : List Is} {N : Nat} {xs : List Lr} {g m c : Nat} {W : World} (h : OwnR l N xs (.slice (some ⟨g, 0, none⟩) m c) W) {i : Nat} {x : Lr} (hx : xs[i]? = some x) (p : Int) :
    OwnR l N (xs.set i { x with p := p }) (.slice (some ⟨g, 0, none⟩) m c) (W.setCell ⟨g, i * 4 + 1, none⟩ (.int .i64 p)) := by
  obtain ⟨cur, hc, hR⟩ := own_blk h.list
  obtain ⟨a', k', e⟩ := gown_form h.list
  injection e with e1 e2 e3
  subst e2
  have hil := (List.getElem?_eq_some_iff.1 hx).1
  have hmem : ∀ y ∈ xs.set i { x with p := p }, ∃ z ∈ xs, y.h = z.h ∧ y.mv l = z.mv l ∧ y.bv l = z.bv l := fun y hy => by
    obtain ⟨j, hj⟩ := List.getElem?_of_mem hy
    rw [List.getElem?_set] at hj
    split at hj
    · rename_i e
      subst e
      cases hj
      exact ⟨x, List.mem_of_getElem? hx, rfl, rfl, rfl⟩
    · exact ⟨y, List.mem_of_getElem? hj, rfl, rfl, rfl⟩
  refine ⟨?_, fun y hy => ?_, fun y hy => ?_⟩
  · have := (World.ownsRow.stored h.list (i * 4 + 1) (.int .i64 p)).1
    rw [flat_set (Lr.cells_len l) xs i 1 x { x with p := p } (.int .i64 p) hx (by decide) rfl] at this
    rw [List.length_set]
    exact this
  · obtain ⟨z, hz, e1, e2, _⟩ := hmem y hy
    rw [e1, e2]
    exact own_set (h.mem z hz) hc (by decide) _ _
  · obtain ⟨z, hz, e1, _, e3⟩ := hmem y hy
    rw [e1, e3]
    exact own_set (h.bac z hz) hc (by decide) _ _
/-- What the document's own Find tells. -/
def RfP (l : List Is) (w : World) (e : Ending) (w' : World) : Prop := ∃ v xs, e = .returned (.tuple #[v, .int .i64 (((fndZ l).e : Nat) : Int), .int .i64 (((fndZ l).at' : Nat) : Int)]) ∧ xs.map (Lr.lo l) = (fndZ l).ls ∧ OwnR l w.heap.size xs v w' ∧ Below w.heap.size w w'
theorem OwnR.nil (l : List Is) (N : Nat) (W : World) : OwnR l N [] (.slice none 0 0) W := ⟨World.ownsRow_nil _ _ _ _, (fun _ h => by cases h), (fun _ h => by cases h)⟩
/-- The parents while they are sought: all ahead of i, and of i among the first k. -/
noncomputable def parF (l : List Is) (i k j : Nat) : Int := if j < i then parK (hds l) ((hds l).map (mbs l)) j (hds l).length else if j = i then parK (hds l) ((hds l).map (mbs l)) i k else -1
theorem parF_next (l : List Is) (i j : Nat) : parF l i (hds l).length j = parF l (i + 1) 0 j := by
  unfold parF
  by_cases h1 : j < i
  · rw [if_pos h1, if_pos (by omega)]
  · rw [if_neg h1]
    by_cases h2 : j = i
    · rw [if_pos h2, if_pos (by omega), h2]
    · rw [if_neg h2, if_neg (by omega)]
      split
      · rfl
      · rfl
theorem parF_here (l : List Is) (i k : Nat) : parF l i k i = parK (hds l) ((hds l).map (mbs l)) i k := by unfold parF; rw [if_neg (Nat.lt_irrefl _), if_pos rfl]
theorem parF_other (l : List Is) {i j : Nat} (k k' : Nat) (h : j ≠ i) : parF l i k j = parF l i k' j := by unfold parF; rw [if_neg h, if_neg h]
structure PaJ (l : List Is) (i k : Nat) (ys : List Lr) : Prop where
  h : ys.map Lr.h = hds l
  p : ∀ j y, ys[j]? = some y → y.p = parF l i k j
theorem PaJ.len {l : List Is} {i k : Nat} {ys : List Lr} (h : PaJ l i k ys) : ys.length = (hds l).length := by rw [← h.h, List.length_map]
theorem PaJ.head {l : List Is} {i k j : Nat} {ys : List Lr} {y : Lr} (h : PaJ l i k ys) (hy : ys[j]? = some y) : (hds l).getD j 0 = y.h := by
  rw [← h.h, List.getD_eq_getElem?_getD, List.getElem?_map, hy]; rfl
theorem PaJ.skip {l : List Is} {i k : Nat} {ys : List Lr} (h : PaJ l i k ys) (hn : parK (hds l) ((hds l).map (mbs l)) i (k + 1) = parK (hds l) ((hds l).map (mbs l)) i k) : PaJ l i (k + 1) ys :=
  ⟨h.h, fun j y hy => by
    rw [h.p j y hy]
    by_cases e : j = i
    · subst e; rw [parF_here, parF_here, hn]
    · exact parF_other l _ _ e⟩
theorem PaJ.put {l : List Is} {i k : Nat} {ys : List Lr} {x : Lr} (h : PaJ l i k ys) (hx : ys[i]? = some x) (hn : parK (hds l) ((hds l).map (mbs l)) i (k + 1) = (k : Int)) : PaJ l i (k + 1) (ys.set i { x with p := (k : Int) }) := by
  have hil := (List.getElem?_eq_some_iff.1 hx).1
  refine ⟨?_, fun j y hy => ?_⟩
  · rw [List.map_set]
    refine Eq.trans ?_ h.h
    refine List.ext_getElem? fun j => ?_
    rw [List.getElem?_set]
    split
    · rename_i e
      subst e
      rw [List.length_map, if_pos hil, List.getElem?_map, hx]
      rfl
    · rfl
  · rw [List.getElem?_set] at hy
    split at hy
    · rename_i e
      subst e
      cases hy
      rw [parF_here, hn]
    · rename_i e
      rw [h.p j y hy]
      exact parF_other l _ _ (Ne.symm e)
theorem PaJ.next {l : List Is} {i : Nat} {ys : List Lr} (h : PaJ l i (hds l).length ys) : PaJ l (i + 1) 0 ys := ⟨h.h, fun j y hy => by rw [h.p j y hy, parF_next]⟩
theorem PaJ.done {l : List Is} {ys : List Lr} (h : PaJ l (hds l).length 0 ys) : ys.map (Lr.lo l) = lopsZ l := lops_done h.h fun j y hy => by
  rw [h.p j y hy]
  have hl := h.len
  have := (List.getElem?_eq_some_iff.1 hy).1
  unfold parF
  rw [if_pos (by omega)]
theorem parK_step (l : List Is) {i k : Nat} {a b : Lr} {ys : List Lr} {q r : Nat} (h : PaJ l q r ys) (hi : ys[i]? = some a) (hk : ys[k]? = some b) :
    (parK (hds l) ((hds l).map (mbs l)) i (k + 1) = if k ≠ i ∧ a.h ∈ mbs l b.h ∧ (parK (hds l) ((hds l).map (mbs l)) i k < 0 ∨ (mbs l b.h).length < (((hds l).map (mbs l)).getD (parK (hds l) ((hds l).map (mbs l)) i k).toNat []).length) then (k : Int) else parK (hds l) ((hds l).map (mbs l)) i k) := by
  have hkl : k < (hds l).length := by rw [← h.len]; exact (List.getElem?_eq_some_iff.1 hk).1
  rw [parK, h.head hi, mms_at hkl, h.head hk]
theorem kntZ_some {l : List Is} {v : Nat} (hv : v < l.length) (h : ∀ u, u < v → pD (Awy l u u) = false) (hp : pD (Awy l v v) = true) : kntZ l = some v := by
  unfold kntZ
  rw [List.find?_range_eq_some]
  exact ⟨hp, List.mem_range.2 hv, fun j hj => by rw [h j hj]; rfl⟩
theorem kntZ_no {l : List Is} (h : ∀ u, u < l.length → pD (Awy l u u) = false) : kntZ l = none := by
  unfold kntZ
  rw [List.find?_eq_none]
  exact fun x hx => by rw [h x (List.mem_range.1 hx)]; decide
theorem rcB_mbs {l : List Is} {h : Nat} {bs : List Bool} (hb : ∀ x, bs[x]? = some true ↔ Mbr l h x) : ((List.range l.length).filter fun v => bs[v]? == some true) = mbs l h := by
  unfold mbs
  refine List.filter_congr fun x _ => ?_
  exact pD_b (by rw [beq_iff_eq]; exact hb x)
/-- Those that are marked, of the first k. -/
def rcM (rs : List Bool) (k : Nat) : List Nat := (List.range k).filter fun v => rs[v]? == some true
theorem rcM_yes {rs : List Bool} {k : Nat} (h : rs[k]? = some true) : rcM rs (k + 1) = rcM rs k ++ [k] := by unfold rcM; rw [List.range_succ, List.filter_append]; simp [h]
theorem rcM_no {rs : List Bool} {k : Nat} (h : rs[k]? = some false) : rcM rs (k + 1) = rcM rs k := by unfold rcM; rw [List.range_succ, List.filter_append]; simp [h]
theorem rcM_len (rs : List Bool) (k : Nat) : (rcM rs k).length ≤ k := by
  have := List.length_filter_le (fun v => rs[v]? == some true) (List.range k)
  rwa [List.length_range] at this
end Go.Proofs.YtgiokognngllcaaDoor
