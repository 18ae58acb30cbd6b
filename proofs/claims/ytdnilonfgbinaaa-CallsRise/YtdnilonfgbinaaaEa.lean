/- Rows that the call owns: what is appended to them, and that they are lists. -/
import Derived.Test.YtdnilonfgbinaaaCg
import Derived.Maps.AppendAt
import Derived.Deep.DeepAppendRoom
import Derived.Deep.AppendSrc
namespace Go.Proofs.Ytdnilonfgbinaaa
open Go.RowKit Go.Sort

theorem flat_len {α : Type} {f : α → List Value} {k : Nat} (hf : ∀ x, (f x).length = k) (l : List α) : (l.flatMap f).length = l.length * k := by
  induction l with
  | nil => simp
  | cons x r ih => rw [List.flatMap_cons, List.length_append, hf, ih, List.length_cons, Nat.add_mul]; omega
theorem flatC_at {α : Type} {f : α → List Value} {k : Nat} (hf : ∀ x, (f x).length = k) (r : List Value) : ∀ (l : List α) (i : Nat) (x : α) (j : Nat), l[i]? = some x → j < k → (l.flatMap f ++ r)[i * k + j]? = (f x)[j]?
  | [], i, x, j, h, _ => by simp at h
  | y :: l, 0, x, j, h, hj => by
    simp at h; subst h
    rw [List.flatMap_cons, List.append_assoc, List.getElem?_append_left (by rw [hf]; omega)]; simp
  | y :: l, i + 1, x, j, h, hj => by
    rw [List.flatMap_cons, List.append_assoc, List.getElem?_append_right (by rw [hf, Nat.add_mul]; omega), hf]
    have := flatC_at hf r l i x j (by simpa using h) hj
    rw [← this]; congr 1; rw [Nat.add_mul]; omega
/-- The cells of a list that came in, as what is appended. -/
theorem src_news {W : World} {a : Option Addr} {α : Type} {f : α → List Value} {k : Nat} {l : List α} (h : RowIn W a k (l.map f)) (hf : ∀ x, (f x).length = k) (hk : 0 < k) : ∀ ad, a = some ad → ∀ j u, (l.flatMap f)[j]? = some u → W.cell? (ad.add j) = some u := by
  intro ad e j u hj
  have hjl := (List.getElem?_eq_some_iff.1 hj).1
  rw [flat_len hf] at hjl
  have hq : j / k < l.length := (Nat.div_lt_iff_lt_mul hk).2 hjl
  have hr : j % k < k := Nat.mod_lt _ hk
  have hd : j / k * k + j % k = j := Nat.div_add_mod' j k
  have hat := flatC_at hf [] l (j / k) l[j / k] (j % k) (List.getElem?_eq_getElem hq) hr
  rw [List.append_nil, hd, hj] at hat
  obtain ⟨b, o, e', hc⟩ := h (j / k) (f l[j / k]) (by simp [hq])
  rw [e] at e'
  cases e'
  have := hc (j % k) u hat.symm
  rw [hd] at this
  rw [Addr.add_lit]
  exact this
theorem rowIn_none {W : World} {a : Option Addr} {α : Type} {f : α → List Value} {k : Nat} {l : List α} (h : RowIn W a k (l.map f)) : a = none → l.length = 0 := by
  intro e
  cases l with
  | nil => rfl
  | cons x r => obtain ⟨b, o, e', _⟩ := h 0 (f x) (by simp); rw [e] at e'; cases e'

theorem gown_form {W : World} {N n sz : Nat} {T : TypeId} {v : Value} {xs : List Value} (h : W.ownsRow N T sz v n xs) : ∃ ao cap, v = .slice ao n cap := by
  rcases h.2 with ⟨rfl, rfl⟩ | ⟨g', cap, cur, rfl, _⟩
  · exact ⟨_, _, rfl⟩
  · exact ⟨_, _, rfl⟩
/-- A row that is owned is a list. -/
theorem own_row {W : World} {N n k : Nat} {T : TypeId} {a : Option Addr} {c : Nat} {α : Type} {f : α → List Value} {l : List α} (h : W.ownsRow N T k (.slice a n c) n (l.flatMap f)) (hf : ∀ x, (f x).length = k) (hk : 0 < k) : RowIn W a k (l.map f) := by
  intro i cs hi
  rw [List.getElem?_map, Option.map_eq_some_iff] at hi
  obtain ⟨x, hx, rfl⟩ := hi
  have hil := (List.getElem?_eq_some_iff.1 hx).1
  have hlen := h.1
  rw [flat_len hf] at hlen
  rcases h.2 with ⟨e, h0⟩ | ⟨g, cap, cur, e, h1, h2, h3, h4, h5, h6⟩
  · have : l.length * k = 0 := by rw [hlen, h0]; simp
    rcases Nat.mul_eq_zero.1 this with h | h <;> omega
  · cases e
    refine ⟨g, 0, rfl, fun j v hj => ?_⟩
    have hjk : j < k := by have := (List.getElem?_eq_some_iff.1 hj).1; rw [hf] at this; exact this
    have hat := flatC_at hf [] l i x j hx hjk
    rw [List.append_nil, hj, ← h6, List.getElem?_take] at hat
    split at hat
    · rw [Lib.cell_of_heap h2, ← Array.getElem?_toList, Nat.zero_add]; exact hat
    · cases hat
/-- Blocks of rows of other types are others. -/
theorem own_ne {W : World} {N N' n n' sz sz' : Nat} {T T' : TypeId} {v v' : Value} {xs xs' : List Value} (h : W.ownsRow N T sz v n xs) (h' : W.ownsRow N' T' sz' v' n' xs') (hT : T ≠ T') : v.ownBlock = none ∨ v.ownBlock ≠ v'.ownBlock := by
  rcases h.2 with ⟨rfl, _⟩ | ⟨g, cap, cur, rfl, h1, h2, _⟩
  · exact .inl rfl
  · refine .inr fun e => ?_
    rcases h'.2 with ⟨rfl, _⟩ | ⟨g', cap', cur', rfl, h1', h2', _⟩
    · simp [Value.ownBlock] at e
    · have : g = g' := by simpa [Value.ownBlock] using e
      subst this
      rw [h2] at h2'
      simp at h2'
      exact hT h2'.2
/-- A row stays where a block of another type is written. -/
theorem own_set {W : World} {N n sz : Nat} {T T' : TypeId} {v : Value} {xs : List Value} {b : Nat} {cs : Array Value} {fz : Nat × Nat} (h : W.ownsRow N T sz v n xs) (hb : W.heap[b]? = some (.cells cs T' fz)) (hT : T ≠ T') (i : Nat) (u : Value) : (W.setCell ⟨b, i, none⟩ u).ownsRow N T sz v n xs := by
  refine ⟨h.1, ?_⟩
  rcases h.2 with h0 | ⟨g, cap, cur, rfl, h1, h2, h3⟩
  · exact .inl h0
  · refine .inr ⟨g, cap, cur, rfl, h1, ?_, h3⟩
    have hne : g ≠ b := fun e => by
      subst e
      rw [h2] at hb
      simp at hb
      exact hT hb.2.1
    exact (Below.heap_setCell _ _ _ _ hne).trans h2
theorem own_stay {W W' : World} {N n sz : Nat} {T : TypeId} {v : Value} {xs : List Value} (h : W.ownsRow N T sz v n xs) (hb : Below W.heap.size W W') : W'.ownsRow N T sz v n xs := by
  refine ⟨h.1, ?_⟩
  rcases h.2 with h0 | ⟨g, cap, cur, rfl, h1, h2, h3⟩
  · exact .inl h0
  · exact .inr ⟨g, cap, cur, rfl, h1, (hb.block _ (Array.getElem?_eq_some_iff.1 h2).1).trans h2, h3⟩
theorem own_mono {W : World} {N N' n sz : Nat} {T : TypeId} {v : Value} {xs : List Value} (h : W.ownsRow N T sz v n xs) (hN : N' ≤ N) : W.ownsRow N' T sz v n xs := by
  refine ⟨h.1, ?_⟩
  rcases h.2 with h0 | ⟨g, cap, cur, rfl, h1, h2, h3⟩
  · exact .inl h0
  · exact .inr ⟨g, cap, cur, rfl, Nat.le_trans hN h1, h2, h3⟩
theorem own_base {W : World} {N n sz : Nat} {T : TypeId} {v : Value} {xs : List Value} (h : W.ownsRow N T sz v n xs) : ∀ k, v.ownBlock = some k → N ≤ k := fun k hk => (h.lt k hk).1
theorem row_new (W : World) (T : TypeId) (sz : Nat) : (W.alloc (.cells #[] T)).ownsRow W.heap.size T sz (.slice (some ⟨W.heap.size, 0, none⟩) 0 0) 0 [] :=
  ⟨by simp, .inr ⟨W.heap.size, 0, #[], rfl, Nat.le_refl _, heap_alloc_new _ _, Nat.le_refl _, by unfold maxLen; omega, by simp, by simp⟩⟩
theorem info_parts {o : Option TypeInfo} {z : Option Value} {s b : Nat} (h : o.map (fun i => (i.zero, i.size, i.bytes)) = some (z, s, b)) : ∃ i, o = some i ∧ i.zero = z ∧ i.size = s ∧ i.bytes = b := by
  cases o with
  | none => simp at h
  | some i => simp at h; exact ⟨i, rfl, h.1, h.2.1, h.2.2⟩

/-- append of a list that came in (or of none) to a row of the call's own. -/
theorem run_append_ownS {P : Program} (w : World) (base : Nat) (t ty e : TypeId) (i : TypeInfo) (z : Value) (size bytes : Nat) (ht : P.underlying t = some (.slice e)) (hi : P.info? e = some i) (hz : i.zero = some z)
    (hsize : i.size = size) (hby : i.bytes = bytes) (hzs : z.cells.size = size) (hsz : 0 < size)
    (v : Value) (n : Nat) (xs : List Value) (hown : w.ownsRow base e size v n xs)
    (a : Option Addr) (m c : Nat) (news : List Value) (hl : news.length = m * size) (hnone : a = none → m = 0) (hnews : ∀ ad, a = some ad → ∀ j u, news[j]? = some u → w.cell? (ad.add j) = some u) (h1 : ∀ u ∈ news, u.oneCell' = true)
    (h63 : n + m ≤ maxLen) (hbytes : (n + m) * bytes ≤ 140737488355328) (hbase : base ≤ w.heap.size) :
    ∃ v' w', (Builtin.append_ #[t, t] ty #[v, .slice a m c]).run P w = .ok v' w' ∧ w'.ownsRow base e size v' (n + m) (xs ++ news) ∧ w.grownBy w' v.ownBlock := by
  cases a with
  | some ad =>
    obtain ⟨v', w', h1, h2, h3, _⟩ := run_append_own (P := P) w base t ty e i z size bytes ht hi hz hsize hby hzs hsz v n xs hown ad m c news hl (hnews ad rfl) h1 h63 hbytes hbase
    exact ⟨v', w', h1, h2, h3⟩
  | none =>
    obtain rfl := hnone rfl
    have hn0 : news = [] := List.eq_nil_of_length_eq_zero (by simpa using hl)
    subst hn0
    refine ⟨v, w, ?_, by simpa using hown, ⟨rfl, rfl, rfl, Nat.le_refl _, fun _ _ _ => rfl⟩⟩
    rcases hown.2 with ⟨rfl, rfl⟩ | ⟨g, cap, cur, rfl, hbg, hg, hnc, hcm, hcs, htake⟩
    · simp [Builtin.append_, run_underlying ht, sizeOf, typeInfo, hi, Builtin.lenOf, Builtin.firstCells]
    · simp [Builtin.append_, run_underlying ht, sizeOf, typeInfo, hi, Builtin.lenOf, hnc, Builtin.firstCells, storeCells]
theorem wpList_append_ownS {P : Program} (w : World) {ops : Array Oper} {rest : List Oper} {o : Oper} {a : Act} {Q : Exit → Act → World → Prop} (hgd : o.guard = none) (s x : Operand) (t : TypeId)
    (ho : o.op = .call { callee := .builtin .append, args := #[s, x], argTypes := #[t, t] })
    (base : Nat) (e : TypeId) (i : TypeInfo) (z : Value) (size bytes : Nat) (ht : P.underlying t = some (.slice e)) (hi : P.info? e = some i) (hz : i.zero = some z)
    (hsize : i.size = size) (hby : i.bytes = bytes) (hzs : z.cells.size = size) (hsz : 0 < size)
    (v : Value) (n : Nat) (xs : List Value) (hs : a.eval s = v) (hown : w.ownsRow base e size v n xs)
    (ad : Option Addr) (m c : Nat) (news : List Value) (hx : a.eval x = .slice ad m c) (hl : news.length = m * size) (hnone : ad = none → m = 0) (hnews : ∀ ad', ad = some ad' → ∀ j u, news[j]? = some u → w.cell? (ad'.add j) = some u) (h1 : ∀ u ∈ news, u.oneCell' = true)
    (h63 : n + m ≤ maxLen) (hbytes : (n + m) * bytes ≤ 140737488355328) (hbase : base ≤ w.heap.size)
    (h : ∀ v' w', w'.ownsRow base e size v' (n + m) (xs ++ news) → w.grownBy w' v.ownBlock → wpList P ops Q rest (a.put o.dst v') w') : wpList P ops Q (o :: rest) a w := by
  obtain ⟨v', w', hr, h2, h3⟩ := run_append_ownS (P := P) w base t o.type e i z size bytes ht hi hz hsize hby hzs hsz v n xs hown ad m c news hl hnone hnews h1 h63 hbytes hbase
  refine wpList_plain hgd fun K hK => ?_
  unfold Oper.wp execOp
  simp only [ho, resolve, invoke, builtin, Sem.run_bind, Sem.run_pure, Result.andThen_ok, List.map_toArray, List.map_cons, List.map_nil, hs, hx, hr]
  exact hK _ _ (h v' w' h2 h3)
theorem Try.infoI : (Try.prog.info? 2).map (fun i => (i.zero, i.size, i.bytes)) = some (some (.int .i64 0), 1, 8) := by kernel_rfl
theorem Try.infoN : (Try.prog.info? 3).map (fun i => (i.zero, i.size, i.bytes)) = some (some (.int .i64 0), 1, 8) := by kernel_rfl
theorem Try.infoP : (Try.prog.info? 73).map (fun i => (i.zero, i.size, i.bytes)) = some (some (.agg #[.int .i64 0, .int .i64 0]), 2, 16) := by kernel_rfl
theorem Try.infoX : (Try.prog.info? 44).map (fun i => (i.zero, i.size, i.bytes)) = some (some (.agg #[.int .i64 0, .int .i64 0, .int .i64 0, .int .i64 0, .int .i64 0]), 5, 40) := by kernel_rfl
theorem Try.infoF : (Try.prog.info? 42).map (fun i => (i.zero, i.size, i.bytes)) = some (some (.agg #[.string ⟨#[]⟩, .slice none 0 0, .int .i64 0, .int .i64 0, .slice none 0 0]), 5, 80) := by kernel_rfl
end Go.Proofs.Ytdnilonfgbinaaa
