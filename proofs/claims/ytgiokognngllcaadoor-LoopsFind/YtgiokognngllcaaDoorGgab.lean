/- What is wrong with an instruction: checkN, checkIns. -/
import Derived.Test.YtgiokognngllcaaDoorGgaa
import Derived.Maps.AppendAt
import Derived.Deep.DeepAppendRoom
import Derived.Deep.AppendSrc
namespace Go.Proofs.YtgiokognngllcaaDoor
open Go.RowKit Go.Sort

abbrev oM (m : Mo) : Obj := .cells #[.slice m.ta m.ths.length m.tc, .slice m.fa m.funcs.length m.fc] 36
abbrev oF (f : Fn) : Obj := .cells #[.string f.name, .slice f.pa f.params.length f.pc, .int .i64 f.regs, .int .i64 f.words, .slice f.ca f.code.length f.cc] 25
abbrev oX (x : Is) : Obj := .cells #[.int .i64 x.op, .int .i64 x.a, .int .i64 x.b, .int .i64 x.c, .int .i64 x.n] 52
theorem below3 (w : World) (a b c : Obj) : Below w.heap.size w (((w.alloc a).alloc b).alloc c) := Below.one (Below.one (Below.one (Below.refl _ w) a) b) c
theorem cell_m {w : World} {m : Mo} {b c : Obj} {j : Nat} {v : Value} (h : (#[.slice m.ta m.ths.length m.tc, .slice m.fa m.funcs.length m.fc] : Array Value)[j]? = some v) : (((w.alloc (oM m)).alloc b).alloc c).cell? ⟨w.heap.size, j, none⟩ = some v :=
  cell_kept_below (new_cell w _ _ j v h) (Below.one (Below.one (Below.refl _ _) b) c)
theorem cell_f {w : World} {a : Obj} {f : Fn} {c : Obj} {j : Nat} {v : Value} (h : (#[.string f.name, .slice f.pa f.params.length f.pc, .int .i64 f.regs, .int .i64 f.words, .slice f.ca f.code.length f.cc] : Array Value)[j]? = some v) : (((w.alloc a).alloc (oF f)).alloc c).cell? ⟨w.heap.size + 1, j, none⟩ = some v := by
  have := cell_kept_below (new_cell (w.alloc a) _ 25 j v h) (Below.one (Below.refl _ _) c)
  rwa [World.size_alloc] at this
theorem cell_x {w : World} {a b : Obj} {x : Is} {j : Nat} {v : Value} (h : (#[.int .i64 x.op, .int .i64 x.a, .int .i64 x.b, .int .i64 x.c, .int .i64 x.n] : Array Value)[j]? = some v) : (((w.alloc a).alloc b).alloc (oX x)).cell? ⟨w.heap.size + 1 + 1, j, none⟩ = some v := by
  have := new_cell ((w.alloc a).alloc b) _ 52 j v h
  rwa [World.size_alloc, World.size_alloc] at this

theorem rw_n (op : Int) : (rwOf op).n = 0 ∨ (rwOf op).n = 1 ∨ (rwOf op).n = 2 ∨ (rwOf op).n = 3 ∨ (rwOf op).n = 4 := by
  by_cases h : 0 ≤ op ∧ op ≤ 19
  · refine op_cases (P := fun op => (rwOf op).n = 0 ∨ (rwOf op).n = 1 ∨ (rwOf op).n = 2 ∨ (rwOf op).n = 3 ∨ (rwOf op).n = 4) h.1 h.2 ?_ ?_ ?_ ?_ ?_ ?_ ?_ ?_ ?_ ?_ ?_ ?_ ?_ ?_ ?_ ?_ ?_ ?_ ?_ ?_ <;> decide
  · rw [rwOf_no h]; simp
theorem parN_at {m : Mo} {k : Nat} (h : k < m.funcs.length) : parN m k = (m.funcs[k].params.length : Int) := by
  unfold parN; simp [h]

def callZ (m : Mo) (f : Fn) (x : Is) : Int := if x.n < 0 ∨ x.n ≥ m.funcs.length ∨ wrap64 (x.b + parN m x.n) > f.regs then 65 else 0
end Go.Proofs.YtgiokognngllcaaDoor

/- Rows that the call owns: what is appended to them, and that they are lists. -/
namespace Go.Proofs.YtgiokognngllcaaDoor
open Go.RowKit Go.Sort

theorem flat_len {α : Type} {f : α → List Value} {k : Nat} (hf : ∀ x, (f x).length = k) (l : List α) : (l.flatMap f).length = l.length * k := by
  induction l with
  | nil => simp
  | cons x r ih => rw [List.flatMap_cons, List.length_append, hf, ih, List.length_cons, Nat.add_mul]; omega
theorem flatC_at {α : Type} {f : α → List Value} {k : Nat} (hf : ∀ x, (f x).length = k) (r : List Value) : ∀ (l : List α) (i : Nat) (x : α) (j : Nat), l[i]? = some x → j < k → (l.flatMap f ++ r)[i * k + j]? = (f x)[j]?
  | [], i, x, j, h, _ => by simp at h
  | y :: l, 0, x, j, h, hj => by
    simp at h; subst h
    rw [List.flatMap_cons, List.append_assoc, List.getElem?_append_left (by rw [hf]; omega)]; simp
  | y :: l, i + 1, x, j, h, hj => by
    rw [List.flatMap_cons, List.append_assoc, List.getElem?_append_right (by rw [hf, Nat.add_mul]; omega), hf]
    have := flatC_at hf r l i x j (by simpa using h) hj
    rw [← this]; congr 1; rw [Nat.add_mul]; omega
/-- The cells of a list that came in, as what is appended. -/
theorem src_news {W : World} {a : Option Addr} {α : Type} {f : α → List Value} {k : Nat} {l : List α} (h : RowIn W a k (l.map f)) (hf : ∀ x, (f x).length = k) (hk : 0 < k) : ∀ ad, a = some ad → ∀ j u, (l.flatMap f)[j]? = some u → W.cell? (ad.add j) = some u := by
  intro ad e j u hj
  have hjl := (List.getElem?_eq_some_iff.1 hj).1
  rw [flat_len hf] at hjl
  have hq : j / k < l.length := (Nat.div_lt_iff_lt_mul hk).2 hjl
  have hr : j % k < k := Nat.mod_lt _ hk
  have hd : j / k * k + j % k = j := Nat.div_add_mod' j k
  have hat := flatC_at hf [] l (j / k) l[j / k] (j % k) (List.getElem?_eq_getElem hq) hr
  rw [List.append_nil, hd, hj] at hat
  obtain ⟨b, o, e', hc⟩ := h (j / k) (f l[j / k]) (by simp [hq])
  rw [e] at e'
  cases e'
  have := hc (j % k) u hat.symm
  rw [hd] at this
  rw [Addr.add_lit]
  exact this
theorem rowIn_none {W : World} {a : Option Addr} {α : Type} {f : α → List Value} {k : Nat} {l : List α} (h : RowIn W a k (l.map f)) : a = none → l.length = 0 := by
  intro e
  cases l with
  | nil => rfl
  | cons x r => obtain ⟨b, o, e', _⟩ := h 0 (f x) (by simp); rw [e] at e'; cases e'

theorem gown_form {W : World} {N n sz : Nat} {T : TypeId} {v : Value} {xs : List Value} (h : W.ownsRow N T sz v n xs) : ∃ ao cap, v = .slice ao n cap := by
  rcases h.2 with ⟨rfl, rfl⟩ | ⟨g', cap, cur, rfl, _⟩
  · exact ⟨_, _, rfl⟩
  · exact ⟨_, _, rfl⟩
/-- A row that is owned is a list. -/
theorem own_row {W : World} {N n k : Nat} {T : TypeId} {a : Option Addr} {c : Nat} {α : Type} {f : α → List Value} {l : List α} (h : W.ownsRow N T k (.slice a n c) n (l.flatMap f)) (hf : ∀ x, (f x).length = k) (hk : 0 < k) : RowIn W a k (l.map f) := by
  intro i cs hi
  rw [List.getElem?_map, Option.map_eq_some_iff] at hi
  obtain ⟨x, hx, rfl⟩ := hi
  have hil := (List.getElem?_eq_some_iff.1 hx).1
  have hlen := h.1
  rw [flat_len hf] at hlen
  rcases h.2 with ⟨e, h0⟩ | ⟨g, cap, cur, e, h1, h2, h3, h4, h5, h6⟩
  · have : l.length * k = 0 := by rw [hlen, h0]; simp
    rcases Nat.mul_eq_zero.1 this with h | h <;> omega
  · cases e
    refine ⟨g, 0, rfl, fun j v hj => ?_⟩
    have hjk : j < k := by have := (List.getElem?_eq_some_iff.1 hj).1; rw [hf] at this; exact this
    have hat := flatC_at hf [] l i x j hx hjk
    rw [List.append_nil, hj, ← h6, List.getElem?_take] at hat
    split at hat
    · rw [Lib.cell_of_heap h2, ← Array.getElem?_toList, Nat.zero_add]; exact hat
    · cases hat
/-- Blocks of rows of other types are others. -/
theorem own_ne {W : World} {N N' n n' sz sz' : Nat} {T T' : TypeId} {v v' : Value} {xs xs' : List Value} (h : W.ownsRow N T sz v n xs) (h' : W.ownsRow N' T' sz' v' n' xs') (hT : T ≠ T') : v.ownBlock = none ∨ v.ownBlock ≠ v'.ownBlock := by
  rcases h.2 with ⟨rfl, _⟩ | ⟨g, cap, cur, rfl, h1, h2, _⟩
  · exact .inl rfl
  · refine .inr fun e => ?_
    rcases h'.2 with ⟨rfl, _⟩ | ⟨g', cap', cur', rfl, h1', h2', _⟩
    · simp [Value.ownBlock] at e
    · have : g = g' := by simpa [Value.ownBlock] using e
      subst this
      rw [h2] at h2'
      simp at h2'
      exact hT h2'.2
/-- A row stays where a block of another type is written. -/
theorem own_set {W : World} {N n sz : Nat} {T T' : TypeId} {v : Value} {xs : List Value} {b : Nat} {cs : Array Value} {fz : Nat × Nat} (h : W.ownsRow N T sz v n xs) (hb : W.heap[b]? = some (.cells cs T' fz)) (hT : T ≠ T') (i : Nat) (u : Value) : (W.setCell ⟨b, i, none⟩ u).ownsRow N T sz v n xs := by
  refine ⟨h.1, ?_⟩
  rcases h.2 with h0 | ⟨g, cap, cur, rfl, h1, h2, h3⟩
  · exact .inl h0
  · refine .inr ⟨g, cap, cur, rfl, h1, ?_, h3⟩
    have hne : g ≠ b := fun e => by
      subst e
      rw [h2] at hb
      simp at hb
      exact hT hb.2.1
    exact (Below.heap_setCell _ _ _ _ hne).trans h2
theorem own_stay {W W' : World} {N n sz : Nat} {T : TypeId} {v : Value} {xs : List Value} (h : W.ownsRow N T sz v n xs) (hb : Below W.heap.size W W') : W'.ownsRow N T sz v n xs := by
  refine ⟨h.1, ?_⟩
  rcases h.2 with h0 | ⟨g, cap, cur, rfl, h1, h2, h3⟩
  · exact .inl h0
  · exact .inr ⟨g, cap, cur, rfl, h1, (hb.block _ (Array.getElem?_eq_some_iff.1 h2).1).trans h2, h3⟩
theorem own_mono {W : World} {N N' n sz : Nat} {T : TypeId} {v : Value} {xs : List Value} (h : W.ownsRow N T sz v n xs) (hN : N' ≤ N) : W.ownsRow N' T sz v n xs := by
  refine ⟨h.1, ?_⟩
  rcases h.2 with h0 | ⟨g, cap, cur, rfl, h1, h2, h3⟩
  · exact .inl h0
  · exact .inr ⟨g, cap, cur, rfl, Nat.le_trans hN h1, h2, h3⟩
theorem own_base {W : World} {N n sz : Nat} {T : TypeId} {v : Value} {xs : List Value} (h : W.ownsRow N T sz v n xs) : ∀ k, v.ownBlock = some k → N ≤ k := fun k hk => (h.lt k hk).1
theorem row_new (W : World) (T : TypeId) (sz : Nat) : (W.alloc (.cells #[] T)).ownsRow W.heap.size T sz (.slice (some ⟨W.heap.size, 0, none⟩) 0 0) 0 [] :=
  ⟨by simp, .inr ⟨W.heap.size, 0, #[], rfl, Nat.le_refl _, heap_alloc_new _ _, Nat.le_refl _, by unfold maxLen; omega, by simp, by simp⟩⟩
theorem info_parts {o : Option TypeInfo} {z : Option Value} {s b : Nat} (h : o.map (fun i => (i.zero, i.size, i.bytes)) = some (z, s, b)) : ∃ i, o = some i ∧ i.zero = z ∧ i.size = s ∧ i.bytes = b := by
  cases o with
  | none => simp at h
  | some i => simp at h; exact ⟨i, rfl, h.1, h.2.1, h.2.2⟩

/-- append of a list that came in (or of none) to a row of the call's own. -/
theorem run_append_ownS {P : Program} (w : World) (base : Nat) (t ty e : TypeId) (i : TypeInfo) (z : Value) (size bytes : Nat) (ht : P.underlying t = some (.slice e)) (hi : P.info? e = some i) (hz : i.zero = some z)
    (hsize : i.size = size) (hby : i.bytes = bytes) (hzs : z.cells.size = size) (hsz : 0 < size)
    (v : Value) (n : Nat) (xs : List Value) (hown : w.ownsRow base e size v n xs)
    (a : Option Addr) (m c : Nat) (news : List Value) (hl : news.length = m * size) (hnone : a = none → m = 0) (hnews : ∀ ad, a = some ad → ∀ j u, news[j]? = some u → w.cell? (ad.add j) = some u) (h1 : ∀ u ∈ news, u.oneCell' = true)
    (h63 : n + m ≤ maxLen) (hbytes : (n + m) * bytes ≤ 140737488355328) (hbase : base ≤ w.heap.size) :
    ∃ v' w', (Builtin.append_ #[t, t] ty #[v, .slice a m c]).run P w = .ok v' w' ∧ w'.ownsRow base e size v' (n + m) (xs ++ news) ∧ w.grownBy w' v.ownBlock := by
  cases a with
  | some ad =>
    obtain ⟨v', w', h1, h2, h3, _⟩ := run_append_own (P := P) w base t ty e i z size bytes ht hi hz hsize hby hzs hsz v n xs hown ad m c news hl (hnews ad rfl) h1 h63 hbytes hbase
    exact ⟨v', w', h1, h2, h3⟩
  | none =>
    obtain rfl := hnone rfl
    have hn0 : news = [] := List.eq_nil_of_length_eq_zero (by simpa using hl)
    subst hn0
    refine ⟨v, w, ?_, by simpa using hown, ⟨rfl, rfl, rfl, Nat.le_refl _, fun _ _ _ => rfl⟩⟩
    rcases hown.2 with ⟨rfl, rfl⟩ | ⟨g, cap, cur, rfl, hbg, hg, hnc, hcm, hcs, htake⟩
    · simp [Builtin.append_, run_underlying ht, sizeOf, typeInfo, hi, Builtin.lenOf, Builtin.firstCells]
    · simp [Builtin.append_, run_underlying ht, sizeOf, typeInfo, hi, Builtin.lenOf, hnc, Builtin.firstCells, storeCells]
theorem wpList_append_ownS {P : Program} (w : World) {ops : Array Oper} {rest : List Oper} {o : Oper} {a : Act} {Q : Exit → Act → World → Prop} (hgd : o.guard = none) (s x : Operand) (t : TypeId)
    (ho : o.op = .call { callee := .builtin .append, args := #[s, x], argTypes := #[t, t] })
    (base : Nat) (e : TypeId) (i : TypeInfo) (z : Value) (size bytes : Nat) (ht : P.underlying t = some (.slice e)) (hi : P.info? e = some i) (hz : i.zero = some z)
    (hsize : i.size = size) (hby : i.bytes = bytes) (hzs : z.cells.size = size) (hsz : 0 < size)
    (v : Value) (n : Nat) (xs : List Value) (hs : a.eval s = v) (hown : w.ownsRow base e size v n xs)
    (ad : Option Addr) (m c : Nat) (news : List Value) (hx : a.eval x = .slice ad m c) (hl : news.length = m * size) (hnone : ad = none → m = 0) (hnews : ∀ ad', ad = some ad' → ∀ j u, news[j]? = some u → w.cell? (ad'.add j) = some u) (h1 : ∀ u ∈ news, u.oneCell' = true)
    (h63 : n + m ≤ maxLen) (hbytes : (n + m) * bytes ≤ 140737488355328) (hbase : base ≤ w.heap.size)
    (h : ∀ v' w', w'.ownsRow base e size v' (n + m) (xs ++ news) → w.grownBy w' v.ownBlock → wpList P ops Q rest (a.put o.dst v') w') : wpList P ops Q (o :: rest) a w := by
  obtain ⟨v', w', hr, h2, h3⟩ := run_append_ownS (P := P) w base t o.type e i z size bytes ht hi hz hsize hby hzs hsz v n xs hown ad m c news hl hnone hnews h1 h63 hbytes hbase
  refine wpList_plain hgd fun K hK => ?_
  unfold Oper.wp execOp
  simp only [ho, resolve, invoke, builtin, Sem.run_bind, Sem.run_pure, Result.andThen_ok, List.map_toArray, List.map_cons, List.map_nil, hs, hx, hr]
  exact hK _ _ (h v' w' h2 h3)
theorem Tryd.infoI : (Tryd.prog.info? 2).map (fun i => (i.zero, i.size, i.bytes)) = some (some (.int .i64 0), 1, 8) := by kernel_rfl
theorem Tryd.infoN : (Tryd.prog.info? 3).map (fun i => (i.zero, i.size, i.bytes)) = some (some (.int .i64 0), 1, 8) := by kernel_rfl
theorem Tryd.infoP : (Tryd.prog.info? 89).map (fun i => (i.zero, i.size, i.bytes)) = some (some (.agg #[.int .i64 0, .int .i64 0]), 2, 16) := by kernel_rfl
theorem Tryd.infoX : (Tryd.prog.info? 52).map (fun i => (i.zero, i.size, i.bytes)) = some (some (.agg #[.int .i64 0, .int .i64 0, .int .i64 0, .int .i64 0, .int .i64 0]), 5, 40) := by kernel_rfl
theorem Tryd.infoF : (Tryd.prog.info? 25).map (fun i => (i.zero, i.size, i.bytes)) = some (some (.agg #[.string ⟨#[]⟩, .slice none 0 0, .int .i64 0, .int .i64 0, .slice none 0 0]), 5, 80) := by kernel_rfl
end Go.Proofs.YtgiokognngllcaaDoor

/- The document's own copies: a function. -/
namespace Go.Proofs.YtgiokognngllcaaDoor
open Go.RowKit Go.Lib Go.Sort

/-- A function g is the same as f, in memory of its own from N on. -/
def Cpd (W : World) (N : Nat) (g f : Fn) : Prop := g.name = f.name ∧ g.regs = f.regs ∧ g.words = f.words ∧ g.params = f.params ∧ g.code = f.code ∧
  W.ownsRow N 89 2 (.slice g.pa g.params.length g.pc) g.params.length (g.params.flatMap spC) ∧ W.ownsRow N 52 5 (.slice g.ca g.code.length g.cc) g.code.length (g.code.flatMap Is.cells)
theorem Cpd.stay {W W' : World} {N : Nat} {g f : Fn} (h : Cpd W N g f) (hb : Below W.heap.size W W') : Cpd W' N g f := ⟨h.1, h.2.1, h.2.2.1, h.2.2.2.1, h.2.2.2.2.1, own_stay h.2.2.2.2.2.1 hb, own_stay h.2.2.2.2.2.2 hb⟩
theorem Cpd.low {W : World} {N N' : Nat} {g f : Fn} (h : Cpd W N g f) (hN : N' ≤ N) : Cpd W N' g f := ⟨h.1, h.2.1, h.2.2.1, h.2.2.2.1, h.2.2.2.2.1, own_mono h.2.2.2.2.2.1 hN, own_mono h.2.2.2.2.2.2 hN⟩
theorem Cpd.in {W : World} {N : Nat} {g f : Fn} {w : World} (h : Cpd W N g f) (hf : f.In w) : g.In W := by
  obtain ⟨h1, h2, h3, h4, h5, h6, h7⟩ := h
  obtain ⟨f1, f2, f3, f4, f5, f6, f7⟩ := hf
  refine ⟨by rw [h1]; exact f1, by rw [h2]; exact f2, by rw [h3]; exact f3, ⟨by rw [h4]; exact f4.1, own_row h6 (fun _ => rfl) (by omega)⟩, by rw [h4]; exact f5, ⟨by rw [h5]; exact f6.1, own_row h7 (fun _ => rfl) (by omega)⟩, by rw [h5]; exact f7⟩
theorem one_sp (l : List Sp) : ∀ u ∈ l.flatMap spC, u.oneCell' = true := by
  intro u hu
  obtain ⟨x, _, hx⟩ := List.mem_flatMap.1 hu
  simp [spC] at hx
  rcases hx with rfl | rfl <;> rfl
theorem one_is (l : List Is) : ∀ u ∈ l.flatMap Is.cells, u.oneCell' = true := by
  intro u hu
  obtain ⟨x, _, hx⟩ := List.mem_flatMap.1 hu
  simp [Is.cells] at hx
  rcases hx with rfl | rfl | rfl | rfl | rfl <;> rfl
theorem one_th (l : List Int) : ∀ u ∈ l.flatMap thC, u.oneCell' = true := by
  intro u hu
  obtain ⟨x, _, hx⟩ := List.mem_flatMap.1 hu
  simp [thC] at hx
  subst hx; rfl

theorem own_put {W W' : World} {N n sz : Nat} {T T' : TypeId} {v : Value} {xs : List Value} {b : Nat} {cs : Array Value} {fz : Nat × Nat} (h : W.ownsRow N T sz v n xs) (hb : W.heap[b]? = some (.cells cs T' fz)) (hT : T ≠ T') (hk : ∀ k, k ≠ b → W'.heap[k]? = W.heap[k]?) : W'.ownsRow N T sz v n xs := by
  refine ⟨h.1, ?_⟩
  rcases h.2 with h0 | ⟨g, cap, cur, rfl, h1, h2, h3⟩
  · exact .inl h0
  · refine .inr ⟨g, cap, cur, rfl, h1, ?_, h3⟩
    have hne : g ≠ b := fun e => by
      subst e
      rw [h2] at hb
      simp at hb
      exact hT hb.2.1
    exact (hk _ hne).trans h2
theorem set5 (W : World) (b : Nat) (v0 v1 v2 v3 v4 : Value) : ∀ k, k ≠ b → (((((W.setCell ⟨b, 0, none⟩ v0).setCell ⟨b, 1, none⟩ v1).setCell ⟨b, 2, none⟩ v2).setCell ⟨b, 3, none⟩ v3).setCell ⟨b, 4, none⟩ v4).heap[k]? = W.heap[k]? := fun k hk => by
  rw [Below.heap_setCell _ _ _ _ hk, Below.heap_setCell _ _ _ _ hk, Below.heap_setCell _ _ _ _ hk, Below.heap_setCell _ _ _ _ hk, Below.heap_setCell _ _ _ _ hk]
theorem ne_some {a b : Nat} (h : a ≠ b) : some a ≠ some b := fun e => h (by injection e)
set_option maxRecDepth 100000 in
set_option maxHeartbeats 4000000 in
theorem copyFunc_any (f : Fn) (w : World) (hf : f.In w) : Calls Tryd.prog 7 #[f.val] w fun e w' => ∃ g : Fn, e = .returned g.val ∧ Cpd w' w.heap.size g f ∧ Below w.heap.size w w' := by
  obtain ⟨f1, f2, f3, f4, f5, f6, f7⟩ := hf
  have HP := Hid.mk' f4
  have HC := Hid.mk' f6
  have hp := f4.1
  have hc := f6.1
  clear f1 f2 f3 f4 f5 f6 f7
  obtain ⟨i0, hi, hz0, hz1, hz2⟩ := info_parts Tryd.infoP
  obtain ⟨i1, gi, gz0, gz1, gz2⟩ := info_parts Tryd.infoX
  have HI0 := Hid.mk' hi
  have HI1 := Hid.mk' gi
  clear hi gi
  obtain ⟨name, pa, pc, params, regs, words, ca, cc, code⟩ := f
  unfold Fn.val
  simp only at *
  have hb := Below.one (Below.one (Below.one (Below.refl _ w) (.cells #[.string name, .slice pa params.length pc, .int .i64 regs, .int .i64 words, .slice ca code.length cc] 25)) (.cells #[.string ⟨#[]⟩, .slice none 0 0, .int .i64 0, .int .i64 0, .slice none 0 0] 25)) (.cells #[] 89)
  have HO := Hid.mk' (own_mono (N' := w.heap.size) (row_new ((w.alloc (.cells #[.string name, .slice pa params.length pc, .int .i64 regs, .int .i64 words, .slice ca code.length cc] 25)).alloc (.cells #[.string ⟨#[]⟩, .slice none 0 0, .int .i64 0, .int .i64 0, .slice none 0 0] 25)) 89 2) (by simp; omega))
  rw [World.size_alloc, World.size_alloc] at HO
  have X : (((w.alloc (.cells #[.string name, .slice pa params.length pc, .int .i64 regs, .int .i64 words, .slice ca code.length cc] 25)).alloc (.cells #[.string ⟨#[]⟩, .slice none 0 0, .int .i64 0, .int .i64 0, .slice none 0 0] 25)).alloc (.cells #[] 89)).heap[w.heap.size]? = some (.cells #[.string name, .slice pa params.length pc, .int .i64 regs, .int .i64 words, .slice ca code.length cc] 25) := by
    rw [Below.heap_alloc _ _ _ (by simp; omega), Below.heap_alloc _ _ _ (by simp)]; exact heap_alloc_new _ _
  have Y : (((w.alloc (.cells #[.string name, .slice pa params.length pc, .int .i64 regs, .int .i64 words, .slice ca code.length cc] 25)).alloc (.cells #[.string ⟨#[]⟩, .slice none 0 0, .int .i64 0, .int .i64 0, .slice none 0 0] 25)).alloc (.cells #[] 89)).heap[w.heap.size + 1]? = some (.cells #[.string ⟨#[]⟩, .slice none 0 0, .int .i64 0, .int .i64 0, .slice none 0 0] 25) := by
    rw [Below.heap_alloc _ _ _ (by simp)]
    have := heap_alloc_new (w.alloc (.cells #[.string name, .slice pa params.length pc, .int .i64 regs, .int .i64 words, .slice ca code.length cc] 25)) (.cells #[.string ⟨#[]⟩, .slice none 0 0, .int .i64 0, .int .i64 0, .slice none 0 0] 25)
    rwa [World.size_alloc] at this
  have HX := Hid.mk' X
  have HY := Hid.mk' Y
  have L0 := Hid.mk' (flat_len (f := spC) (k := 2) (fun _ => rfl) params)
  have L1 := Hid.mk' (flat_len (f := Is.cells) (k := 5) (fun _ => rfl) code)
  have N0 := Hid.mk' (rowIn_none (HP.out.stay hb).2)
  have S0 := Hid.mk' (src_news (k := 2) (f := spC) (HP.out.stay hb).2 (fun _ => rfl) (by omega))
  have N1 := Hid.mk' (rowIn_none HC.out.2)
  have M0 : Hid (0 + params.length ≤ maxLen) := (by unfold maxLen; omega : 0 + params.length ≤ maxLen)
  have M1 : Hid (0 + code.length ≤ maxLen) := (by unfold maxLen; omega : 0 + code.length ≤ maxLen)
  have B0 : Hid ((0 + params.length) * 16 ≤ 140737488355328) := (by omega : (0 + params.length) * 16 ≤ 140737488355328)
  have B1 : Hid ((0 + code.length) * 40 ≤ 140737488355328) := (by omega : (0 + code.length) * 40 ≤ 140737488355328)
  clear X Y
  go_enter Tryd.func7, Tryd.ntmps7
  go_upto_region 2 with (at_builtin; refine wpList_append_ownS _ rfl _ _ 22 rfl w.heap.size 89 i0 (.agg #[.int .i64 0, .int .i64 0]) 2 16 Tryd.underlying22 HI0.out hz0 hz1 hz2 rfl (by decide) _ 0 [] rfl HO.out pa params.length pc (params.flatMap spC) rfl L0.out N0.out S0.out (one_sp _) M0.out B0.out hb.size ?_; intro v1 w1 own1 grow1; rw [Nat.zero_add, List.nil_append] at own1; obtain ⟨a1, c1, rfl⟩ := gown_form own1; replace grow1 : World.grownBy _ w1 (some (w.heap.size + 1 + 1)) := grow1; have X1 := (grow1.block _ (Array.getElem?_eq_some_iff.1 HX.out).1 (ne_some (by omega))).trans HX.out; have Y1 := (grow1.block _ (Array.getElem?_eq_some_iff.1 HY.out).1 (ne_some (by omega))).trans HY.out; have HX1 := Hid.mk' X1; have HY1 := Hid.mk' Y1; have HG1 := Hid.mk' grow1; clear grow1; have k1 : w1.cell? ⟨w.heap.size, 1, none⟩ = some (.slice pa params.length pc) := Lib.cell_of_heap X1 1; have k4 : w1.cell? ⟨w.heap.size, 4, none⟩ = some (.slice ca code.length cc) := Lib.cell_of_heap X1 4; have kf : w1.frozen? ⟨w.heap.size, 1, none⟩ = false := Lib.frozen_of_heap X1 _; clear X1 Y1)
  have hb1 : Below w.heap.size w w1 := hb.grown HG1.out hb.size (fun k e => by injection e with e; omega)
  have XV : (w1.setCell ⟨w.heap.size, 1, none⟩ (.slice a1 params.length c1)).heap[w.heap.size]? = some (.cells #[.string name, .slice a1 params.length c1, .int .i64 regs, .int .i64 words, .slice ca code.length cc] 25) := by
    have := heap_setCell_same w1 w.heap.size 1 _ _ (.slice a1 params.length c1) HX1.out
    simpa using this
  have YV : (w1.setCell ⟨w.heap.size, 1, none⟩ (.slice a1 params.length c1)).heap[w.heap.size + 1]? = some (.cells #[.string ⟨#[]⟩, .slice none 0 0, .int .i64 0, .int .i64 0, .slice none 0 0] 25) := (Below.heap_setCell _ _ _ _ (by simp)).trans HY1.out
  have own2 := own_set own1 HX1.out (by decide) 1 (.slice a1 params.length c1)
  have hb2 : Below w.heap.size w (w1.setCell ⟨w.heap.size, 1, none⟩ (.slice a1 params.length c1)) := hb1.setCell (Nat.le_refl _) _
  clear HX HY HX1 HY1 HG1 own1 hb hb1 k1 k4 kf HO
  generalize w1.setCell ⟨w.heap.size, 1, none⟩ (.slice a1 params.length c1) = V at *
  have hszV : w.heap.size + 1 < V.heap.size := (Array.getElem?_eq_some_iff.1 YV).1
  have HO := Hid.mk' (own_mono (N' := w.heap.size) (row_new V 52 5) hb2.size)
  have hb3 := Below.one hb2 (.cells #[] 52)
  have S1 := Hid.mk' (src_news (k := 5) (f := Is.cells) (HC.out.stay hb3).2 (fun _ => rfl) (by omega))
  have HX := Hid.mk' ((Below.heap_alloc V (.cells #[] 52) _ (by omega)).trans XV)
  have HY := Hid.mk' ((Below.heap_alloc V (.cells #[] 52) _ hszV).trans YV)
  have HS := Hid.mk' own2
  have k4 : V.cell? ⟨w.heap.size, 4, none⟩ = some (.slice ca code.length cc) := Lib.cell_of_heap XV 4
  have hlt0 : w.heap.size < V.heap.size := by omega
  clear XV YV own2
  go_upto_region 3 with (at_builtin; refine wpList_append_ownS _ rfl _ _ 23 rfl w.heap.size 52 i1 (.agg #[.int .i64 0, .int .i64 0, .int .i64 0, .int .i64 0, .int .i64 0]) 5 40 Tryd.underlying23 HI1.out gz0 gz1 gz2 rfl (by decide) _ 0 [] rfl HO.out ca code.length cc (code.flatMap Is.cells) rfl L1.out N1.out S1.out (one_is _) M1.out B1.out hb3.size ?_; intro v2 w2 own1 grow1; rw [Nat.zero_add, List.nil_append] at own1; obtain ⟨a2, c2, rfl⟩ := gown_form own1; replace grow1 : World.grownBy _ w2 (some V.heap.size) := grow1; have X1 := (grow1.block _ (Array.getElem?_eq_some_iff.1 HX.out).1 (ne_some (by omega))).trans HX.out; have Y1 := (grow1.block _ (Array.getElem?_eq_some_iff.1 HY.out).1 (ne_some (by omega))).trans HY.out; have HX1 := Hid.mk' X1; have HY1 := Hid.mk' Y1; have HG1 := Hid.mk' grow1; clear grow1; have j4 : w2.cell? ⟨w.heap.size, 4, none⟩ = some (.slice ca code.length cc) := Lib.cell_of_heap X1 4; have jf : w2.frozen? ⟨w.heap.size, 4, none⟩ = false := Lib.frozen_of_heap X1 _; clear X1 Y1)
  have hb4 : Below w.heap.size w w2 := hb3.grown HG1.out hb3.size (fun k e => by injection e with e; omega)
  have XV : (w2.setCell ⟨w.heap.size, 4, none⟩ (.slice a2 code.length c2)).heap[w.heap.size]? = some (.cells #[.string name, .slice a1 params.length c1, .int .i64 regs, .int .i64 words, .slice a2 code.length c2] 25) := by
    have := heap_setCell_same w2 w.heap.size 4 _ _ (.slice a2 code.length c2) HX1.out
    simpa using this
  have YV : (w2.setCell ⟨w.heap.size, 4, none⟩ (.slice a2 code.length c2)).heap[w.heap.size + 1]? = some (.cells #[.string ⟨#[]⟩, .slice none 0 0, .int .i64 0, .int .i64 0, .slice none 0 0] 25) := (Below.heap_setCell _ _ _ _ (by simp)).trans HY1.out
  have own2 := own_set own1 HX1.out (by decide) 4 (.slice a2 code.length c2)
  have own3 : w2.ownsRow w.heap.size 89 2 (.slice a1 params.length c1) params.length (params.flatMap spC) := (HS.out.alloc (.cells #[] 52)).kept HG1.out (by
    have := own_ne (HS.out.alloc (.cells #[] 52)) (row_new V 52 5) (by decide)
    exact this)
  have own4 := own_set own3 HX1.out (by decide) 4 (.slice a2 code.length c2)
  have hb5 : Below w.heap.size w (w2.setCell ⟨w.heap.size, 4, none⟩ (.slice a2 code.length c2)) := hb4.setCell (Nat.le_refl _) _
  clear HX HY HX1 HY1 HG1 own1 own3 hb2 hb3 hb4 k4 j4 jf HO HS S1
  generalize w2.setCell ⟨w.heap.size, 4, none⟩ (.slice a2 code.length c2) = U at *
  have x0 : U.cell? ⟨w.heap.size, 0, none⟩ = some (.string name) := Lib.cell_of_heap XV 0
  have x1 : U.cell? ⟨w.heap.size, 1, none⟩ = some (.slice a1 params.length c1) := Lib.cell_of_heap XV 1
  have x2 : U.cell? ⟨w.heap.size, 2, none⟩ = some (.int .i64 regs) := Lib.cell_of_heap XV 2
  have x3 : U.cell? ⟨w.heap.size, 3, none⟩ = some (.int .i64 words) := Lib.cell_of_heap XV 3
  have x4 : U.cell? ⟨w.heap.size, 4, none⟩ = some (.slice a2 code.length c2) := Lib.cell_of_heap XV 4
  have y0 : U.cell? ⟨w.heap.size + 1, 0, none⟩ = some (.string ⟨#[]⟩) := Lib.cell_of_heap YV 0
  have y1 : U.cell? ⟨w.heap.size + 1, 1, none⟩ = some (.slice none 0 0) := Lib.cell_of_heap YV 1
  have y2 : U.cell? ⟨w.heap.size + 1, 2, none⟩ = some (.int .i64 0) := Lib.cell_of_heap YV 2
  have y3 : U.cell? ⟨w.heap.size + 1, 3, none⟩ = some (.int .i64 0) := Lib.cell_of_heap YV 3
  have y4 : U.cell? ⟨w.heap.size + 1, 4, none⟩ = some (.slice none 0 0) := Lib.cell_of_heap YV 4
  have z0 : U.frozen? ⟨w.heap.size + 1, 0, none⟩ = false := Lib.frozen_of_heap YV _
  have z1 : U.frozen? ⟨w.heap.size + 1, 1, none⟩ = false := Lib.frozen_of_heap YV _
  have z2 : U.frozen? ⟨w.heap.size + 1, 2, none⟩ = false := Lib.frozen_of_heap YV _
  have z3 : U.frozen? ⟨w.heap.size + 1, 3, none⟩ = false := Lib.frozen_of_heap YV _
  have z4 : U.frozen? ⟨w.heap.size + 1, 4, none⟩ = false := Lib.frozen_of_heap YV _
  have HE := Hid.mk' (And.intro own2 (And.intro own4 (And.intro hb5 YV)))
  clear own2 own4 hb5 XV YV
  go_wp2_with fail
  refine bodyPost_ret (v := .agg #[.string name, .slice a1 params.length c1, .int .i64 regs, .int .i64 words, .slice a2 code.length c2]) (by simp [results, Tryd.results7, go_sem, *]) rfl ⟨⟨name, a1, c1, params, regs, words, a2, c2, code⟩, rfl, ⟨rfl, rfl, rfl, rfl, rfl, ?_, ?_⟩, ?_⟩
  · exact own_put HE.out.2.1 HE.out.2.2.2 (by decide) (set5 _ _ _ _ _ _ _)
  · exact own_put HE.out.1 HE.out.2.2.2 (by decide) (set5 _ _ _ _ _ _ _)
  · exact (((((HE.out.2.2.1.setCell (by simp) _).setCell (by simp) _).setCell (by simp) _).setCell (by simp) _).setCell (by simp) _)
end Go.Proofs.YtgiokognngllcaaDoor

/- The document's own sameness of functions and modules. -/
namespace Go.Proofs.YtgiokognngllcaaDoor
open Go.RowKit Go.Sort

theorem two_new (w : World) (A B : Array Value) (t : TypeId) : (∀ j v, A[j]? = some v → ((w.alloc (.cells A t)).alloc (.cells B t)).cell? ⟨w.heap.size, j, none⟩ = some v) ∧ (∀ j v, B[j]? = some v → ((w.alloc (.cells A t)).alloc (.cells B t)).cell? ⟨w.heap.size + 1, j, none⟩ = some v) := by
  refine ⟨fun j v h => cell_kept_below (new_cell w A t j v h) (Below.one (Below.refl _ _) _), fun j v h => ?_⟩
  have := new_cell (w.alloc (.cells A t)) B t j v h
  rwa [World.size_alloc] at this
theorem samF_false {x y : Fn} (h : (x.name.toList == y.name.toList) = false ∨ (x.regs == y.regs) = false ∨ (x.words == y.words) = false ∨ samPs x.params y.params = false ∨ samXs x.code y.code = false) : samF x y = false := by
  rw [samF_eq]
  rcases h with h | h | h | h | h <;> simp [h]
theorem samF_rest {x y : Fn} (h1 : (x.name.toList == y.name.toList) = true) (h2 : (x.regs == y.regs) = true) (h3 : (x.words == y.words) = true) : samF x y = (samPs x.params y.params && samXs x.code y.code) := by
  rw [samF_eq, h1, h2, h3]; rfl

set_option maxRecDepth 100000 in
set_option maxHeartbeats 8000000 in
theorem rsameFunc_any (x y : Fn) (w : World) (hx : x.In w) (hy : y.In w) : Calls Tryd.prog 31 #[x.val, y.val] w fun e w' => e = .returned (.bool (samF x y)) ∧ Below w.heap.size w w' := by
  have hb := Below.one (Below.one (Below.refl _ w) (.cells #[.string x.name, .slice x.pa x.params.length x.pc, .int .i64 x.regs, .int .i64 x.words, .slice x.ca x.code.length x.cc] 25)) (.cells #[.string y.name, .slice y.pa y.params.length y.pc, .int .i64 y.regs, .int .i64 y.words, .slice y.ca y.code.length y.cc] 25)
  obtain ⟨hX, hY⟩ := two_new w #[.string x.name, .slice x.pa x.params.length x.pc, .int .i64 x.regs, .int .i64 x.words, .slice x.ca x.code.length x.cc] #[.string y.name, .slice y.pa y.params.length y.pc, .int .i64 y.regs, .int .i64 y.words, .slice y.ca y.code.length y.cc] 25
  have a1 := hX 1 (.slice x.pa x.params.length x.pc) rfl
  have a4 := hX 4 (.slice x.ca x.code.length x.cc) rfl
  have b1 := hY 1 (.slice y.pa y.params.length y.pc) rfl
  have b4 := hY 4 (.slice y.ca y.code.length y.cc) rfl
  clear hX hY
  have HP := Hid.mk' (hx.2.2.2.1.stay hb)
  have HQ := Hid.mk' (hy.2.2.2.1.stay hb)
  have HC := Hid.mk' (hx.2.2.2.2.2.1.stay hb)
  have HD := Hid.mk' (hy.2.2.2.2.2.1.stay hb)
  have s1 := hx.2.2.2.1.1
  have s2 := hx.2.2.2.2.2.1.1
  have t1 := hy.2.2.2.1.1
  have t2 := hy.2.2.2.2.2.1.1
  have HF := Hid.mk' (samF_false (x := x) (y := y))
  have HR := Hid.mk' (samF_rest (x := x) (y := y))
  generalize samF x y = res at *
  clear hx hy
  obtain ⟨name, pa, pc, params, regs, words, ca, cc, code⟩ := x
  obtain ⟨name', pa', pc', params', regs', words', ca', cc', code'⟩ := y
  unfold Fn.val
  simp only at *
  cases e1 : (name.toList == name'.toList)
  · have hz := HF.out (.inl e1)
    subst hz
    go_enter Tryd.func31, Tryd.ntmps31
    go_wp2_with fail
    go_ret
    exact ⟨rfl, hb⟩
  cases e2 : (regs == regs')
  · have hz := HF.out (.inr (.inl e2))
    subst hz
    have e2' : (regs != regs') = true := by simp [bne, e2]
    go_enter Tryd.func31, Tryd.ntmps31
    go_wp2_with fail
    go_ret
    exact ⟨rfl, hb⟩
  have e2' : (regs != regs') = false := by simp [bne, e2]
  cases e3 : (words == words')
  · have hz := HF.out (.inr (.inr (.inl e3)))
    subst hz
    have e3' : (words != words') = true := by simp [bne, e3]
    go_enter Tryd.func31, Tryd.ntmps31
    go_wp2_with fail
    go_ret
    exact ⟨rfl, hb⟩
  have e3' : (words != words') = false := by simp [bne, e3]
  by_cases e4 : params.length = params'.length
  · by_cases e5 : code.length = code'.length
    · have hz := HR.out e1 e2 e3
      subst hz
      have HL4 := Hid.mk' e4
      have HL5 := Hid.mk' e5
      clear HF HR e2 e3
      simp only [← e4, ← e5] at hb a1 a4 b1 b4 HP HQ HC HD ⊢
      clear e4 e5 t1 t2
      go_enter Tryd.func31, Tryd.ntmps31
      go_wp2_with fail
      generalize (w.alloc (.cells #[.string name, .slice pa params.length pc, .int .i64 regs, .int .i64 words, .slice ca code.length cc] 25)).alloc (.cells #[.string name', .slice pa' params.length pc', .int .i64 regs', .int .i64 words', .slice ca' code.length cc'] 25) = W at *
      go_loopw [5] (fun t5 wr => ∃ (j nq : Nat), j ≤ params.length ∧ t5 = .int .i64 j ∧ samPs (params.drop j) (params'.drop j) = samPs params params' ∧ wr = W.drewN nq) (fun t5 _ => params.length - (intOf t5).toNat)
      case atStart => exact ⟨0, 0, Nat.zero_le _, rfl, rfl, rfl⟩
      case round =>
        obtain ⟨j, nq, hj, rfl, hcnt, rfl⟩ := hrel
        have HCN := Hid.mk' hcnt
        clear hcnt
        by_cases hlt : j < params.length
        · have hlt' : j < params'.length := by have := HL4.out; omega
          obtain ⟨b, o, rfl, c0, c1⟩ := sps_at HP.out hlt
          obtain ⟨b', o', rfl, d0, d1⟩ := sps_at HQ.out hlt'
          have hli : (j : Int) < (params.length : Int) := by omega
          have HDj := Hid.mk' (samPs_drop hlt hlt')
          generalize params[j] = x at *
          generalize params'[j] = y at *
          clear hlt'
          go_wp2_with fail
          have hq := fun w => equalIn_sp x y w
          have hg : ∀ (w : World) (op : BinOp) (a b : Operand) (xs ys : Array Value), (eqGuard op 89 a b (.agg xs) (.agg ys)).run Tryd.prog w = .ok () w := fun w op a b xs ys => run_eqGuard_agg w op 89 a b xs ys (by kernel_rfl)
          go_quiet (fail)
          clear hq hg
          cases ev : samP x y
          · rw [ev] at HDj
            go_wp2_with fail
            go_ret
            exact ⟨ret_bool (by rw [← HCN.out, HDj.out]; rfl), (hb.drewN _).drewN _⟩
          · rw [ev] at HDj
            go_wp2_with fail
            go_roundw
            case rel => exact ⟨j + 1, _, by omega, by go_num, by rw [← HCN.out, HDj.out]; rfl, rfl⟩
            case measure => simp [intOf]; omega
        · have hps : samPs params params' = true := by
            rw [← HCN.out, List.drop_eq_nil_of_le (by omega), List.drop_eq_nil_of_le (by have := HL4.out; omega)]; rfl
          have HPS := Hid.mk' hps
          have hli : ¬ ((j : Int) < (params.length : Int)) := by omega
          clear HCN hps
          go_wp2_with fail
          have hbW := hb.drewN nq
          replace a4 := cell_kept_below a4 ((Below.refl _ W).drewN nq)
          replace b4 := cell_kept_below b4 ((Below.refl _ W).drewN nq)
          replace HC := Hid.mk' (HC.out.stay ((Below.refl _ W).drewN nq))
          replace HD := Hid.mk' (HD.out.stay ((Below.refl _ W).drewN nq))
          clear a1 b1 hb HP HQ
          generalize W.drewN nq = V at *
          go_loopw [6] (fun t6 wr => ∃ (j nq : Nat), j ≤ code.length ∧ t6 = .int .i64 j ∧ samXs (code.drop j) (code'.drop j) = samXs code code' ∧ wr = V.drewN nq) (fun t6 _ => code.length - (intOf t6).toNat)
          case atStart => exact ⟨0, 0, Nat.zero_le _, rfl, rfl, rfl⟩
          case round =>
            obtain ⟨i, np, hi, rfl, hcnt, rfl⟩ := hrel
            have HCN := Hid.mk' hcnt
            clear hcnt
            by_cases hlt : i < code.length
            · have hlt' : i < code'.length := by have := HL5.out; omega
              obtain ⟨b, o, rfl, c0, c1, c2, c3, c4⟩ := iss_at HC.out hlt
              obtain ⟨b', o', rfl, d0, d1, d2, d3, d4⟩ := iss_at HD.out hlt'
              have hli : (i : Int) < (code.length : Int) := by omega
              have HDj := Hid.mk' (samXs_drop hlt hlt')
              generalize code[i] = x at *
              generalize code'[i] = y at *
              clear hlt'
              go_wp2_with fail
              have hq := fun w => equalIn_is x y w
              have hg : ∀ (w : World) (op : BinOp) (a b : Operand) (xs ys : Array Value), (eqGuard op 52 a b (.agg xs) (.agg ys)).run Tryd.prog w = .ok () w := fun w op a b xs ys => run_eqGuard_agg w op 52 a b xs ys (by kernel_rfl)
              go_quiet (fail)
              clear hq hg
              cases ev : samX x y
              · rw [ev] at HDj
                go_wp2_with fail
                go_ret
                exact ⟨ret_bool (by rw [← HCN.out, HDj.out, HPS.out]; rfl), (hbW.drewN _).drewN _⟩
              · rw [ev] at HDj
                go_wp2_with fail
                go_roundw
                case rel => exact ⟨i + 1, _, by omega, by go_num, by rw [← HCN.out, HDj.out]; rfl, rfl⟩
                case measure => simp [intOf]; omega
            · have hps : samXs code code' = true := by
                rw [← HCN.out, List.drop_eq_nil_of_le (by omega), List.drop_eq_nil_of_le (by have := HL5.out; omega)]; rfl
              have HXS := Hid.mk' hps
              have hli : ¬ ((i : Int) < (code.length : Int)) := by omega
              clear HCN hps
              go_wp2_with fail
              go_ret
              exact ⟨ret_bool (by rw [HPS.out, HXS.out]; rfl), hbW.drewN _⟩
    · have hz := HF.out (.inr (.inr (.inr (.inr (samXs_len e5)))))
      subst hz
      have e4' : ((params.length : Int) != (params'.length : Int)) = false := by simp only [bne_eq_false_iff_eq]; omega
      have e5' : ((code.length : Int) != (code'.length : Int)) = true := by simp only [bne_iff_ne]; omega
      clear e4
      go_enter Tryd.func31, Tryd.ntmps31
      go_wp2_with fail
      go_ret
      exact ⟨rfl, hb⟩
  · have hz := HF.out (.inr (.inr (.inr (.inl (samPs_len e4)))))
    subst hz
    have e4' : ((params.length : Int) != (params'.length : Int)) = true := by simp only [bne_iff_ne]; omega
    go_enter Tryd.func31, Tryd.ntmps31
    go_wp2_with fail
    go_ret
    exact ⟨rfl, hb⟩
end Go.Proofs.YtgiokognngllcaaDoor
