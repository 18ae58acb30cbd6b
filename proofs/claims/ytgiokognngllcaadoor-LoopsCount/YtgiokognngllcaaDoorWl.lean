/- LoopsCount: what a loop that counts has, plain; what lies in memory. -/
import Derived.Test.YtgiokognngllcaaDoorWj
import Derived.Test.YtgiokognngllcaaDoorWg
import Derived.Test.YtgiokognngllcaaDoorWi
import Derived.Test.YtgiokognngllcaaDoorGgaa
namespace Go.Proofs.YtgiokognngllcaaDoor
open Go.RowKit Go.Sort

theorem errH_none {l : List Is} : ∀ (L : List Nat), errH l L = none → ∀ h ∈ L, bks l h ≠ [] → cntZ l h (bks l h) (mbs l h) = none
  | [], _, h, hm, _ => by cases hm
  | x :: L, e, h, hm, hb => by
    rw [errH] at e
    rcases List.mem_cons.1 hm with rfl | hm
    · rw [if_neg hb] at e
      split at e
      · cases e
      · assumption
    · split at e
      · exact errH_none L e h hm hb
      · split at e
        · cases e
        · exact errH_none L e h hm hb
/-- A loop that counts. -/
structure Cnt (l : List Is) (h : Nat) : Prop where
  op : (opA l h).op = 17
  bk : ∀ u ∈ bks l h, (opA l u).op = 18 ∧ (opA l u).a = (opA l h).a ∧ (opA l u).n = (h : Int)
  wr : ∀ v ∈ mbs l h, 0 ≤ wrN (opA l v) → wrN (opA l v) ≠ (opA l h).b ∧ (wrN (opA l v) = (opA l h).a → v ∈ bks l h)
  ex : ∀ v ∈ mbs l h, (opA l h).n ≠ (v : Int)
theorem opA_in {l : List Is} {v : Nat} (h : v < l.length) : opA l v = l[v] := by
  unfold opA
  rw [List.getD_eq_getElem?_getD, List.getElem?_eq_getElem h]; rfl
theorem cnt_of {l : List Is} {h : Nat} (e : cntZ l h (bks l h) (mbs l h) = none) : Cnt l h := by
  unfold cntZ at e
  split at e
  · cases e
  rename_i h1
  split at e
  · cases e
  rename_i h2
  split at e
  · cases e
  rename_i h3
  split at e
  · cases e
  rename_i h4
  rw [List.find?_eq_none] at h2 h3
  refine ⟨Classical.not_not.1 h1, fun u hu => ?_, fun v hv h0 => ?_, fun v hv he => ?_⟩
  · have h5 := h2 u hu
    rw [decide_eq_true_eq, not_or] at h5
    have h6 : (opA l u).op = 18 := Classical.not_not.1 h5.1
    obtain ⟨h7, h8⟩ := mem_bks' hu
    refine ⟨h6, Classical.not_not.1 h5.2, ?_⟩
    have h9 := h7.1
    rw [nxt_at h8] at h9
    rw [opA_in h8] at h6 ⊢
    unfold nxL at h9
    rw [if_pos (.inr h6)] at h9
    exact (tgt_lt h9).2.symm
  · have h5 := h3 v hv
    unfold drvB at h5
    simp only [Bool.and_eq_true, Bool.or_eq_true, decide_eq_true_eq, Bool.not_eq_true', decide_eq_false_iff_not, not_and, not_or] at h5
    obtain ⟨h6, h7⟩ := h5 h0
    exact ⟨h6, fun h8 => Classical.not_not.1 (h7 h8)⟩
  · exact h4 (List.any_eq_true.2 ⟨v, hv, decide_eq_true he.symm⟩)
theorem cnt_in {l : List Is} (e : errH l (List.range l.length) = none) {i : Nat} (hi : i < (hds l).length) : Cnt l (hdA l i) := by
  obtain ⟨h1, _, h3⟩ := hds_mem (hds_at hi)
  exact cnt_of (errH_none _ e _ (List.mem_range.2 h3) h1)
/-- From where back edges go: of the first i heads. -/
noncomputable def gnL (l : List Is) (i j : Nat) : List Nat := if j ∈ (hds l).take i then bks l j else []
theorem gnL_zero (l : List Is) (j : Nat) : gnL l 0 j = [] := by unfold gnL; simp
theorem hdA_get {l : List Is} {i : Nat} (h : i < (hds l).length) : (hds l)[i] = hdA l i := by
  unfold hdA
  rw [List.getD_eq_getElem?_getD, List.getElem?_eq_getElem h]; rfl
theorem gnL_here {l : List Is} {i : Nat} (h : i < (hds l).length) : gnL l i (hdA l i) = [] := by
  unfold gnL
  rw [if_neg]
  exact nodup_at (hds_nd l) (by rw [List.getElem?_eq_getElem h, hdA_get h])
theorem gnL_succ {l : List Is} {i : Nat} (h : i < (hds l).length) : gnL l (i + 1) (hdA l i) = bks l (hdA l i) := by
  unfold gnL
  rw [if_pos]
  rw [List.take_succ_eq_append_getElem h, hdA_get h]
  simp
theorem gnL_other {l : List Is} {i j : Nat} (h : i < (hds l).length) (hj : j ≠ hdA l i) : gnL l (i + 1) j = gnL l i j := by
  unfold gnL
  rw [List.take_succ_eq_append_getElem h, hdA_get h]
  have : (j ∈ (hds l).take i ++ [hdA l i]) ↔ j ∈ (hds l).take i := by simp [hj]
  simp only [this]
theorem gnL_all (l : List Is) {j : Nat} (hj : j < l.length) : gnL l (hds l).length j = bks l j := by
  unfold gnL
  rw [List.take_of_length_le (Nat.le_refl _)]
  by_cases hb : bks l j = []
  · rw [hb]; split <;> rfl
  · rw [if_pos]
    unfold hds
    rw [List.mem_filter, List.mem_range]
    exact ⟨hj, by simpa using hb⟩
theorem gnL_len (l : List Is) (i j : Nat) : (gnL l i j).length ≤ l.length := by
  unfold gnL
  split
  · exact bks_len l j
  · simp
/-- An edge is one of these just if it goes back. -/
theorem back_iff {l : List Is} {u v : Nat} (hv : v ∈ nxt l u) (hl : u < l.length) : decide (u ∈ bks l v) = pD (Dm l v u) := by
  have h0 : 0 < l.length := by omega
  refine pD_b ?_
  rw [decide_eq_true_eq, mem_bks h0]
  exact ⟨fun h => h.2, fun h => ⟨hv, h⟩⟩
/-- Another row laid. -/
theorem LG.put {w : World} {n F N : Nat} {fr fr' : Nat → List Nat} {vs : List Value} {W W' : World} {v : Nat} {v' : Value} {L : List Nat} (h : LG w n F N fr vs W) (hv : v < n) (hwF : w.heap.size ≤ F)
    (hb : Below W.heap.size W W') (ho : On W.heap.size L v' W') (e1 : fr' v = L) (e2 : ∀ j, j ≠ v → fr' j = fr j) : LG w n F N fr' (vs.set v v') (W'.setCell ⟨F, v, none⟩ v') := by
  have hl := h.len
  have hf' := blk_stay h.f hb
  have keep : ∀ {m : Nat} {q : Value} {xs : List Value}, W'.ownsRow N 3 1 q m xs → (W'.setCell ⟨F, v, none⟩ v').ownsRow N 3 1 q m xs := fun {m q xs} hq => by
    refine hq.kept (row := some F) ⟨rfl, rfl, rfl, by simp, fun k _ hk => heap_setCell_other W' ⟨F, v, none⟩ k v' fun e => hk (by rw [e])⟩ (.inr (row_ne hf' hq))
  refine ⟨?_, by rw [List.length_set, hl], fun j hj => ?_, fun i j hi hj hij => ?_, ?_, by simp only [World.setCell, Array.size_modify]; exact Nat.le_trans h.sz hb.size⟩
  · have := heap_setCell_same W' F v vs.toArray 38 v' hf'
    rw [List.setIfInBounds_toArray] at this
    exact this
  · rw [vs_set (by omega)]
    split
    · rename_i e; subst e; rw [e1]; exact keep (own_mono ho h.sz)
    · rename_i e
      rw [e2 j e]
      exact keep (own_stay (h.rows j hj) hb)
  · rw [vs_set (by omega), vs_set (by omega)]
    split
    · rename_i e
      subst e
      rw [if_neg (Ne.symm hij)]
      exact apart_new ho (h.rows j hj) (Nat.le_refl _)
    · rename_i e
      split
      · rename_i e3; subst e3; exact (apart_new ho (h.rows i hi) (Nat.le_refl _)).symm
      · exact h.ap i j hi hj hij
  · exact (Below.on h.b hb).setCell (p := ⟨F, v, none⟩) hwF v'
/-- How many edges lead to each. -/
def inN (n : Nat) (es : List (Nat × Nat)) : List Nat := (List.range n).map (inC es [])
theorem inN_len (n : Nat) (es : List (Nat × Nat)) : (inN n es).length = n := by simp [inN]
theorem inC_nil (v : Nat) : inC [] [] v = 0 := rfl
theorem inN_nil (n : Nat) : inN n [] = List.replicate n 0 := by
  unfold inN
  refine List.ext_getElem? fun i => ?_
  rw [List.getElem?_map, List.getElem?_replicate]
  split
  · rw [List.getElem?_range (by assumption)]; rfl
  · rw [List.getElem?_eq_none (by rw [List.length_range]; omega)]; rfl
theorem inN_at {n v : Nat} (es : List (Nat × Nat)) (h : v < n) : (inN n es)[v]? = some (inC es [] v) := by simp [inN, h]
theorem inC_one (es : List (Nat × Nat)) (u v x : Nat) : inC (es ++ [(u, v)]) [] x = inC es [] x + if v = x then 1 else 0 := by
  unfold inC
  rw [List.filter_append, List.length_append]
  congr 1
  by_cases e : v = x
  · simp [e]
  · simp [e]
theorem inN_snoc {n : Nat} (es : List (Nat × Nat)) (u v : Nat) : inN n (es ++ [(u, v)]) = (inN n es).set v (inC es [] v + 1) := by
  refine List.ext_getElem? fun i => ?_
  rw [List.getElem?_set, inN_len]
  by_cases hi : i < n
  · rw [inN_at _ hi, inN_at _ hi, inC_one]
    by_cases e : v = i
    · subst e; rw [if_pos rfl, if_pos rfl, if_pos hi]
    · rw [if_neg e, if_neg e]; rfl
  · rw [List.getElem?_eq_none (by rw [inN_len]; omega), List.getElem?_eq_none (l := inN n es) (by rw [inN_len]; omega)]
    split
    · rw [if_neg (by omega)]
    · rfl
theorem inC_le (es : List (Nat × Nat)) (P : List Nat) (v : Nat) : inC es P v ≤ es.length := List.length_filter_le _ _
/-- The edges that are kept, and how many lead to each. -/
structure KE (l : List Is) (w : World) (gI n : Nat) (pre : List (Nat × Nat)) (vk : Value) (W : World) : Prop where
  i : On w.heap.size (inN n (ahdE l pre)) (.slice (some ⟨gI, 0, none⟩) n n) W
  k : Oe w.heap.size (ahdE l pre) vk W
  b : Below w.heap.size w W
theorem KE.stay {l : List Is} {w : World} {gI n : Nat} {pre : List (Nat × Nat)} {vk : Value} {W W' : World} (h : KE l w gI n pre vk W) (hb : Below W.heap.size W W') : KE l w gI n pre vk W' := ⟨own_stay h.i hb, own_stay h.k hb, Below.on h.b hb⟩
theorem KE.skip {l : List Is} {w : World} {gI n u v : Nat} {pre : List (Nat × Nat)} {vk : Value} {W : World} (h : KE l w gI n pre vk W) (hd : pD (Dm l v u) = true) : KE l w gI n (pre ++ [(u, v)]) vk W := by
  have e : ahdE l (pre ++ [(u, v)]) = ahdE l pre := by rw [ahdE_snoc, if_pos hd]
  exact ⟨by rw [e]; exact h.i, by rw [e]; exact h.k, h.b⟩
theorem KE.more {l : List Is} {w : World} {gI n u v : Nat} {pre : List (Nat × Nat)} {vk vk' : Value} {W W' : World} (h : KE l w gI n pre vk W) (hd : ¬ pD (Dm l v u) = true) (hg : W.grownBy W' vk.ownBlock) (ho : Oe w.heap.size (ahdE l pre ++ [(u, v)]) vk' W') :
    On w.heap.size (inN n (ahdE l pre)) (.slice (some ⟨gI, 0, none⟩) n n) W' ∧ KE l w gI n (pre ++ [(u, v)]) vk' (W'.setCell ⟨gI, v, none⟩ (.int .i64 ((inC (ahdE l pre) [] v + 1 : Nat) : Int))) := by
  have hi : On w.heap.size (inN n (ahdE l pre)) (.slice (some ⟨gI, 0, none⟩) n n) W' := h.i.kept hg (own_ne h.i h.k (by decide))
  obtain ⟨cur, hc, hN⟩ := own_blk hi
  refine ⟨hi, ?_, ?_, ?_⟩
  · rw [ahdE_snoc, if_neg hd, inN_snoc]
    exact on_put hi v _
  · rw [ahdE_snoc, if_neg hd]
    exact own_set ho hc (by decide) _ _
  · exact (h.b.grown hg h.b.size (fun k e => own_base h.k k e)).setCell (p := ⟨gI, v, none⟩) hN _
/-- While all is taken away. -/
structure KM (w W8 : World) (gI n : Nat) (into todo : List Nat) (vt : Value) (W : World) : Prop where
  i : On w.heap.size into (.slice (some ⟨gI, 0, none⟩) n n) W
  t : On W8.heap.size todo vt W
  kp : ∀ k, k < W8.heap.size → k ≠ gI → W.heap[k]? = W8.heap[k]?
  b : Below w.heap.size w W
  s : W8.heap.size ≤ W.heap.size
theorem KM.put {w W8 : World} {gI n : Nat} {into todo : List Nat} {vt : Value} {W : World} (h : KM w W8 gI n into todo vt W) (hg : gI < W8.heap.size) (y c : Nat) : KM w W8 gI n (into.set y c) todo vt (W.setCell ⟨gI, y, none⟩ (.int .i64 (c : Int))) := by
  obtain ⟨cur, hc, hN⟩ := own_blk h.i
  exact ⟨on_put h.i y c, own_off h.t (fun e => by have := own_base h.t _ e; omega) _ _, fun k hk hne => (heap_setCell_other W ⟨gI, y, none⟩ k _ (fun e => hne (by rw [e]))).trans (h.kp k hk hne), h.b.setCell (p := ⟨gI, y, none⟩) hN _, by simp only [World.setCell, Array.size_modify]; exact h.s⟩
theorem KM.more {w W8 : World} {gI n : Nat} {into todo todo' : List Nat} {vt vt' : Value} {W W' : World} (h : KM w W8 gI n into todo vt W) (hgI : gI < W8.heap.size) (hw : w.heap.size ≤ W8.heap.size) (hg : W.grownBy W' vt.ownBlock) (ho : On W8.heap.size todo' vt' W') : KM w W8 gI n into todo' vt' W' := by
  refine ⟨h.i.kept hg (.inr fun e => ?_), ho, fun k hk hne => (hg.block k (Nat.lt_of_lt_of_le hk h.s) fun e => ?_).trans (h.kp k hk hne), h.b.grown hg h.b.size (fun k e => by have := own_base h.t k e; omega), Nat.le_trans h.s hg.size⟩
  · have := own_base h.t gI (by rw [← e]; rfl)
    omega
  · have := own_base h.t k e.symm
    omega
/-- Rows that lie still are read. -/
theorem lg_kp {w W8 W : World} {n F N gI : Nat} {fr : Nat → List Nat} {vs : List Value} (h : LG w n F N fr vs W8) (h1 : gI < N) (h2 : gI < F) (hk : ∀ k, k < W8.heap.size → k ≠ gI → W.heap[k]? = W8.heap[k]?) : LsR W (some ⟨F, 0, none⟩) n fr := fun j hj => by
  have hr := h.rows j hj
  obtain ⟨aj, cj, e⟩ := gown_form hr
  have hf := (hk F (Array.getElem?_eq_some_iff.1 h.f).1 (by omega)).trans h.f
  have hr' : On N (fr j) (vs.getD j undef) W := by
    refine ⟨hr.1, ?_⟩
    rcases hr.2 with h0 | ⟨g, cap, cur, e, g1, g2, g3⟩
    · exact .inl h0
    · exact .inr ⟨g, cap, cur, e, g1, (hk g (Array.getElem?_eq_some_iff.1 g2).1 (by omega)).trans g2, g3⟩
  refine ⟨F, 0, aj, cj, rfl, ?_, ?_⟩
  · rw [Nat.zero_add, ← e]
    exact cell_of_obj hf (by rw [List.getElem?_toArray]; exact vs_at (by rw [h.len]; exact hj))
  · rw [e] at hr'
    exact own_lst hr'
/-- Those that can be reached, and those of them to which nothing leads. -/
def rcL (rs : List Bool) (k : Nat) : List Nat := (List.range k).filter fun v => rs[v]? == some true
def tdL (rs : List Bool) (es : List (Nat × Nat)) (k : Nat) : List Nat := (List.range k).filter fun v => (rs[v]? == some true) && decide (inC es [] v = 0)
theorem rcL_yes {rs : List Bool} {k : Nat} (h : rs[k]? = some true) : rcL rs (k + 1) = rcL rs k ++ [k] := by unfold rcL; rw [List.range_succ, List.filter_append]; simp [h]
theorem rcL_no {rs : List Bool} {k : Nat} (h : rs[k]? = some false) : rcL rs (k + 1) = rcL rs k := by unfold rcL; rw [List.range_succ, List.filter_append]; simp [h]
theorem tdL_yes {rs : List Bool} {es : List (Nat × Nat)} {k : Nat} (h : rs[k]? = some true) (h0 : inC es [] k = 0) : tdL rs es (k + 1) = tdL rs es k ++ [k] := by unfold tdL; rw [List.range_succ, List.filter_append]; simp [h, h0]
theorem tdL_no {rs : List Bool} {es : List (Nat × Nat)} {k : Nat} (h : rs[k]? = some false ∨ inC es [] k ≠ 0) : tdL rs es (k + 1) = tdL rs es k := by
  unfold tdL; rw [List.range_succ, List.filter_append]
  rcases h with h | h
  · simp [h]
  · simp [h]
theorem rcL_len (rs : List Bool) (k : Nat) : (rcL rs k).length ≤ k := by
  have := List.length_filter_le (fun v => rs[v]? == some true) (List.range k)
  rwa [List.length_range] at this
theorem tdL_len (rs : List Bool) (es : List (Nat × Nat)) (k : Nat) : (tdL rs es k).length ≤ k := by
  have := List.length_filter_le (fun v => (rs[v]? == some true) && decide (inC es [] v = 0)) (List.range k)
  rwa [List.length_range] at this
theorem mem_rcL {l : List Is} {rs : List Bool} (hr : ∀ v, rs[v]? = some true ↔ Rch l v) (h0 : 0 < l.length) {v : Nat} : v ∈ rcL rs l.length ↔ Rch l v := by
  unfold rcL
  rw [List.mem_filter, List.mem_range, beq_iff_eq, hr]
  exact ⟨fun h => h.2, fun h => ⟨h.lt h0, h⟩⟩
theorem mem_tdL {l : List Is} {rs : List Bool} {es : List (Nat × Nat)} (hr : ∀ v, rs[v]? = some true ↔ Rch l v) (h0 : 0 < l.length) {v : Nat} : v ∈ tdL rs es l.length ↔ Rch l v ∧ inC es [] v = 0 := by
  unfold tdL
  rw [List.mem_filter, List.mem_range, Bool.and_eq_true, beq_iff_eq, hr, decide_eq_true_eq]
  exact ⟨fun h => h.2, fun h => ⟨h.1.lt h0, h⟩⟩
theorem Kh.start {l : List Is} {rs : List Bool} {es : List (Nat × Nat)} (hr : ∀ v, rs[v]? = some true ↔ Rch l v) (h0 : 0 < l.length) : Kh l es (inN l.length es) (tdL rs es l.length) 0 :=
  ⟨List.nodup_range.filter _, fun v hv => ((mem_tdL hr h0).1 hv).1, fun v hv => ⟨by rw [List.take_zero]; exact inN_at es hv, fun hrv => by rw [mem_tdL hr h0, List.take_zero]; exact ⟨fun h => h.2, fun h => ⟨hrv, h⟩⟩⟩⟩
/-- What waits is no more than what can be reached. -/
theorem todo_len {l : List Is} {rs : List Bool} {todo : List Nat} (hr : ∀ v, rs[v]? = some true ↔ Rch l v) (h0 : 0 < l.length) (hn : todo.Nodup) (hm : ∀ v ∈ todo, Rch l v) : todo.length ≤ (rcL rs l.length).length :=
  sub_len hn fun x hx => (mem_rcL hr h0).2 (hm x hx)
theorem todo_all {l : List Is} {rs : List Bool} {todo : List Nat} (hr : ∀ v, rs[v]? = some true ↔ Rch l v) (h0 : 0 < l.length) (ha : ∀ v, Rch l v → v ∈ todo) : (rcL rs l.length).length ≤ todo.length :=
  sub_len (List.nodup_range.filter _) fun x hx => ha x ((mem_rcL hr h0).1 hx)
end Go.Proofs.YtgiokognngllcaaDoor
