/- Without the edges back nothing comes round, plain: one after the other all is taken away. -/
import Derived.Test.YtgiokognngllcaaDoorTw
namespace Go.Proofs.YtgiokognngllcaaDoor
open Go.RowKit Go.Sort

/-- Who leads ahead to one. -/
noncomputable def ancL (l : List Is) (v : Nat) : List Nat := (List.range l.length).filter fun u => pD (Awy l u v)
theorem mem_ancL {l : List Is} (h0 : 0 < l.length) {u v : Nat} : u ∈ ancL l v ↔ Awy l u v := by
  unfold ancL
  rw [List.mem_filter, List.mem_range, pD_t]
  exact ⟨fun h => h.2, fun h => ⟨(h.lt h0).1, h⟩⟩
theorem ancL_nd (l : List Is) (v : Nat) : (ancL l v).Nodup := List.nodup_range.filter _
theorem anc_lt {l : List Is} (h0 : 0 < l.length) (hk : ∀ v, ¬ Awy l v v) {u v : Nat} (h : Ah l u v) : (ancL l u).length < (ancL l v).length := by
  have hn : u ∉ ancL l u := fun hm => hk u ((mem_ancL h0).1 hm)
  have := sub_len (a := u :: ancL l u) (b := ancL l v) (List.nodup_cons.2 ⟨hn, ancL_nd l u⟩) fun x hx => by
    rcases List.mem_cons.1 hx with rfl | hx
    · exact (mem_ancL h0).2 (.one h)
    · exact (mem_ancL h0).2 (.step ((mem_ancL h0).1 hx) h)
  rw [List.length_cons] at this
  omega
/-- Where each one has one behind it there is none. -/
theorem ah_min {l : List Is} (h0 : 0 < l.length) (hk : ∀ v, ¬ Awy l v v) {S : Nat → Prop} (hp : ∀ v, S v → ∃ u, S u ∧ Ah l u v) : ∀ v, ¬ S v := by
  have key : ∀ n v, (ancL l v).length < n → ¬ S v := by
    intro n
    induction n with
    | zero => intro v h; omega
    | succ n ih =>
      intro v h hs
      obtain ⟨u, hu, ha⟩ := hp v hs
      exact ih u (by have := anc_lt h0 hk ha; omega) hu
  exact fun v => key _ v (Nat.lt_succ_self _)
/-- How many edges lead to one from those that are not taken away. -/
def inC (es : List (Nat × Nat)) (P : List Nat) (v : Nat) : Nat := (es.filter fun e => decide (e.2 = v) && !decide (e.1 ∈ P)).length
theorem inC_pos {es : List (Nat × Nat)} {P : List Nat} {v : Nat} (h : inC es P v ≠ 0) : ∃ u, (u, v) ∈ es ∧ u ∉ P := by
  unfold inC at h
  obtain ⟨⟨u, w⟩, hm⟩ := List.exists_mem_of_length_pos (Nat.pos_of_ne_zero h)
  rw [List.mem_filter, Bool.and_eq_true, decide_eq_true_iff, Bool.not_eq_true', decide_eq_false_iff_not] at hm
  simp only at hm
  obtain ⟨h1, rfl, h2⟩ := hm
  exact ⟨u, h1, h2⟩
theorem inC_zero {es : List (Nat × Nat)} {P : List Nat} {u v : Nat} (h : inC es P v = 0) (hm : (u, v) ∈ es) : u ∈ P := by
  refine Classical.byContradiction fun hn => ?_
  unfold inC at h
  have := List.eq_nil_of_length_eq_zero h
  rw [List.filter_eq_nil_iff] at this
  exact this _ hm (by simp [hn])
/-- One taken away: as many fewer as edges lead from it. -/
theorem inC_snoc (v x : Nat) {P : List Nat} (hx : x ∉ P) : ∀ es : List (Nat × Nat), inC es P v = inC es (P ++ [x]) v + ((outL es x).filter fun y => decide (y = v)).length
  | [] => rfl
  | e :: es => by
    have ih := inC_snoc v x hx es
    unfold inC outL at *
    rw [List.filter_cons, List.filter_cons, List.filter_cons]
    by_cases h1 : e.2 = v
    · by_cases h2 : e.1 = x
      · simp [h1, h2, hx] at ih ⊢
        omega
      · by_cases h3 : e.1 ∈ P
        · simp [h1, h2, h3] at ih ⊢
          omega
        · simp [h1, h2, h3] at ih ⊢
          omega
    · by_cases h2 : e.1 = x
      · simp [h1, h2] at ih ⊢
        omega
      · simp [h1, h2] at ih ⊢
        omega
/-- What stands when i are taken away, and of the ways of the next one j are gone. -/
structure Km (l : List Is) (es : List (Nat × Nat)) (into todo : List Nat) (i j x : Nat) : Prop where
  nd : todo.Nodup
  at' : todo[i]? = some x
  mem : ∀ v ∈ todo, Rch l v
  cnt : ∀ v, v < l.length → ∃ c, into[v]? = some c ∧ c + (((outL es x).take j).filter fun y => decide (y = v)).length = inC es (todo.take i) v ∧ (Rch l v → (v ∈ todo ↔ c = 0))
structure Kh (l : List Is) (es : List (Nat × Nat)) (into todo : List Nat) (i : Nat) : Prop where
  nd : todo.Nodup
  mem : ∀ v ∈ todo, Rch l v
  cnt : ∀ v, v < l.length → into[v]? = some (inC es (todo.take i) v) ∧ (Rch l v → (v ∈ todo ↔ inC es (todo.take i) v = 0))
theorem Kh.mid {l : List Is} {es : List (Nat × Nat)} {into todo : List Nat} {i x : Nat} (h : Kh l es into todo i) (hx : todo[i]? = some x) : Km l es into todo i 0 x :=
  ⟨h.nd, hx, h.mem, fun v hv => ⟨_, (h.cnt v hv).1, by simp, (h.cnt v hv).2⟩⟩
theorem nodup_at {todo : List Nat} {i x : Nat} (hn : todo.Nodup) (hx : todo[i]? = some x) : x ∉ todo.take i := by
  obtain ⟨h1, h2⟩ := List.getElem?_eq_some_iff.1 hx
  intro hm
  have hs : (todo.take i ++ todo.drop i).Nodup := by rwa [List.take_append_drop]
  rw [List.nodup_append] at hs
  exact hs.2.2 x hm x (by rw [List.drop_eq_getElem_cons h1, h2]; exact List.mem_cons_self ..) rfl
theorem Km.next {l : List Is} {es : List (Nat × Nat)} {into todo : List Nat} {i j x : Nat} (h : Km l es into todo i j x) (hj : (outL es x).length ≤ j) : Kh l es into todo (i + 1) := by
  obtain ⟨h1, h2⟩ := List.getElem?_eq_some_iff.1 h.at'
  have ht : todo.take (i + 1) = todo.take i ++ [x] := by rw [List.take_succ_eq_append_getElem h1, h2]
  refine ⟨h.nd, h.mem, fun v hv => ?_⟩
  obtain ⟨c, hc, he, hm⟩ := h.cnt v hv
  rw [List.take_of_length_le hj, inC_snoc v x (nodup_at h.nd h.at')] at he
  rw [ht]
  obtain rfl : c = inC es (todo.take i ++ [x]) v := by omega
  exact ⟨hc, hm⟩
/-- One way gone: it counted. -/
theorem Km.pos {l : List Is} {es : List (Nat × Nat)} {into todo : List Nat} {i j x y : Nat} (h : Km l es into todo i j x) (hy : (outL es x)[j]? = some y) (hl : y < l.length) : ∃ c, into[y]? = some (c + 1) ∧ y ∉ todo ∨ ¬ Rch l y := by
  obtain ⟨c, hc, he, hm⟩ := h.cnt y hl
  have hp : 0 < c := by
    rw [inC_snoc y x (nodup_at h.nd h.at')] at he
    have h3 : (outL es x).take (j + 1) ++ (outL es x).drop (j + 1) = outL es x := List.take_append_drop ..
    have h4 := (List.getElem?_eq_some_iff.1 hy).1
    have h5 : (outL es x).take (j + 1) = (outL es x).take j ++ [y] := by rw [List.take_succ_eq_append_getElem h4, (List.getElem?_eq_some_iff.1 hy).2]
    have h6 := congrArg (fun L => (L.filter fun z => decide (z = y)).length) h3
    simp only [h5, List.filter_append, List.length_append, List.filter_cons, decide_true, if_true, List.filter_nil, List.length_cons, List.length_nil] at h6
    omega
  by_cases hr : Rch l y
  · refine ⟨c - 1, .inl ⟨by rw [hc]; congr 1; omega, fun hmem => ?_⟩⟩
    have := (hm hr).1 hmem
    omega
  · exact ⟨0, .inr hr⟩
/-- One way gone, written down. -/
theorem Km.step {l : List Is} {es : List (Nat × Nat)} {into todo : List Nat} {i j x y c : Nat} (h : Km l es into todo i j x) (hy : (outL es x)[j]? = some y) (hl : y < l.length) (hr : Rch l y) (hc : into[y]? = some (c + 1)) (hn : y ∉ todo) :
    Km l es (into.set y c) (if c = 0 then todo ++ [y] else todo) i (j + 1) x := by
  have hi := (List.getElem?_eq_some_iff.1 h.at').1
  have hyl := (List.getElem?_eq_some_iff.1 hc).1
  have h4 := (List.getElem?_eq_some_iff.1 hy).1
  have h5 : (outL es x).take (j + 1) = (outL es x).take j ++ [y] := by rw [List.take_succ_eq_append_getElem h4, (List.getElem?_eq_some_iff.1 hy).2]
  have ht : (if c = 0 then todo ++ [y] else todo).take i = todo.take i := by
    split
    · rw [List.take_append_of_le_length (by omega)]
    · rfl
  have hmem : ∀ v, v ∈ (if c = 0 then todo ++ [y] else todo) ↔ v ∈ todo ∨ (c = 0 ∧ v = y) := fun v => by
    split <;> rename_i e <;> simp [e]
  refine ⟨?_, ?_, fun v hv => ?_, fun v hv => ?_⟩
  · split
    · exact List.nodup_append.2 ⟨h.nd, List.nodup_cons.2 ⟨by simp, List.nodup_nil⟩, fun a ha b hb e => by rw [List.mem_singleton] at hb; subst hb; subst e; exact hn ha⟩
    · exact h.nd
  · split
    · rw [List.getElem?_append_left hi]; exact h.at'
    · exact h.at'
  · rcases (hmem v).1 hv with hv | ⟨_, rfl⟩
    · exact h.mem v hv
    · exact hr
  · rw [ht, h5, List.filter_append, List.length_append]
    obtain ⟨d, hd, he, hm⟩ := h.cnt v hv
    by_cases e : v = y
    · subst e
      rw [hd] at hc
      injection hc with hc
      refine ⟨c, List.getElem?_set_self hyl, ?_, fun _ => ?_⟩
      · have : ([v].filter fun z => decide (z = v)).length = 1 := by simp
        omega
      · rw [hmem]
        exact ⟨fun h2 => h2.elim (fun h3 => absurd h3 hn) (fun h3 => h3.1), fun h2 => .inr ⟨h2, rfl⟩⟩
    · refine ⟨d, by rw [List.getElem?_set_ne (Ne.symm e)]; exact hd, ?_, fun hrv => ?_⟩
      · have : ([y].filter fun z => decide (z = v)).length = 0 := by simp [Ne.symm e]
        omega
      · rw [hmem, ← hm hrv]
        exact ⟨fun h2 => h2.elim id fun h3 => absurd h3.2 e, .inl⟩
/-- All are taken away. -/
theorem Kh.done {l : List Is} {es : List (Nat × Nat)} {into todo : List Nat} {i : Nat} (h0 : 0 < l.length) (hk : ∀ v, ¬ Awy l v v) (he : ∀ u v, (u, v) ∈ es → Ah l u v) (h : Kh l es into todo i) (hi : todo.length ≤ i) : ∀ v, Rch l v → v ∈ todo := by
  intro v hv
  refine Classical.byContradiction fun hn => ?_
  refine ah_min h0 hk (S := fun v => Rch l v ∧ v ∉ todo) (fun v ⟨hr, hno⟩ => ?_) v ⟨hv, hn⟩
  have hc := h.cnt v (hr.lt h0)
  rw [List.take_of_length_le hi] at hc
  obtain ⟨u, hu, hnu⟩ := inC_pos fun e => hno ((hc.2 hr).2 e)
  exact ⟨u, ⟨(he u v hu).1, hnu⟩, he u v hu⟩
end Go.Proofs.YtgiokognngllcaaDoor
