/- Rows that the call owns: what is appended to them, and that they are lists. -/
import Derived.Test.YtboidkmnkicoeaaGreatDoorCg
import Derived.Maps.AppendAt
import Derived.Deep.DeepAppendRoom
import Derived.Deep.AppendSrc
namespace Go.Proofs.YtboidkmnkicoeaaGreatDoor
open Go.RowKit Go.Sort

theorem flat_len {α : Type} {f : α → List Value} {k : Nat} (hf : ∀ x, (f x).length = k) (l : List α) : (l.flatMap f).length = l.length * k := by
  induction l with
  | nil => simp
  | cons x r ih => rw [List.flatMap_cons, List.length_append, hf, ih, List.length_cons, Nat.add_mul]; omega
theorem flatC_at {α : Type} {f : α → List Value} {k : Nat} (hf : ∀ x, (f x).length = k) (r : List Value) : ∀ (l : List α) (i : Nat) (x : α) (j : Nat), l[i]? = some x → j < k → (l.flatMap f ++ r)[i * k + j]? = (f x)[j]?
  | [], i, x, j, h, _ => by simp at h
  | y :: l, 0, x, j, h, hj => by
    simp at h; subst h
    rw [List.flatMap_cons, List.append_assoc, List.getElem?_append_left (by rw [hf]; omega)]; simp
  | y :: l, i + 1, x, j, h, hj => by
    rw [List.flatMap_cons, List.append_assoc, List.getElem?_append_right (by rw [hf, Nat.add_mul]; omega), hf]
    have := flatC_at hf r l i x j (by simpa using h) hj
    rw [← this]; congr 1; rw [Nat.add_mul]; omega
/-- The cells of a list that came in, as what is appended. -/
theorem src_news {W : World} {a : Option Addr} {α : Type} {f : α → List Value} {k : Nat} {l : List α} (h : RowIn W a k (l.map f)) (hf : ∀ x, (f x).length = k) (hk : 0 < k) : ∀ ad, a = some ad → ∀ j u, (l.flatMap f)[j]? = some u → W.cell? (ad.add j) = some u := by
  intro ad e j u hj
  have hjl := (List.getElem?_eq_some_iff.1 hj).1
  rw [flat_len hf] at hjl
  have hq : j / k < l.length := (Nat.div_lt_iff_lt_mul hk).2 hjl
  have hr : j % k < k := Nat.mod_lt _ hk
  have hd : j / k * k + j % k = j := Nat.div_add_mod' j k
  have hat := flatC_at hf [] l (j / k) l[j / k] (j % k) (List.getElem?_eq_getElem hq) hr
  rw [List.append_nil, hd, hj] at hat
  obtain ⟨b, o, e', hc⟩ := h (j / k) (f l[j / k]) (by simp [hq])
  rw [e] at e'
  cases e'
  have := hc (j % k) u hat.symm
  rw [hd] at this
  rw [Addr.add_lit]
  exact this
theorem rowIn_none {W : World} {a : Option Addr} {α : Type} {f : α → List Value} {k : Nat} {l : List α} (h : RowIn W a k (l.map f)) : a = none → l.length = 0 := by
  intro e
  cases l with
  | nil => rfl
  | cons x r => obtain ⟨b, o, e', _⟩ := h 0 (f x) (by simp); rw [e] at e'; cases e'

theorem gown_form {W : World} {N n sz : Nat} {T : TypeId} {v : Value} {xs : List Value} (h : W.ownsRow N T sz v n xs) : ∃ ao cap, v = .slice ao n cap := by
  rcases h.2 with ⟨rfl, rfl⟩ | ⟨g', cap, cur, rfl, _⟩
  · exact ⟨_, _, rfl⟩
  · exact ⟨_, _, rfl⟩
/-- A row that is owned is a list. -/
theorem own_row {W : World} {N n k : Nat} {T : TypeId} {a : Option Addr} {c : Nat} {α : Type} {f : α → List Value} {l : List α} (h : W.ownsRow N T k (.slice a n c) n (l.flatMap f)) (hf : ∀ x, (f x).length = k) (hk : 0 < k) : RowIn W a k (l.map f) := by
  intro i cs hi
  rw [List.getElem?_map, Option.map_eq_some_iff] at hi
  obtain ⟨x, hx, rfl⟩ := hi
  have hil := (List.getElem?_eq_some_iff.1 hx).1
  have hlen := h.1
  rw [flat_len hf] at hlen
  rcases h.2 with ⟨e, h0⟩ | ⟨g, cap, cur, e, h1, h2, h3, h4, h5, h6⟩
  · have : l.length * k = 0 := by rw [hlen, h0]; simp
    rcases Nat.mul_eq_zero.1 this with h | h <;> omega
  · cases e
    refine ⟨g, 0, rfl, fun j v hj => ?_⟩
    have hjk : j < k := by have := (List.getElem?_eq_some_iff.1 hj).1; rw [hf] at this; exact this
    have hat := flatC_at hf [] l i x j hx hjk
    rw [List.append_nil, hj, ← h6, List.getElem?_take] at hat
    split at hat
    · rw [Lib.cell_of_heap h2, ← Array.getElem?_toList, Nat.zero_add]; exact hat
    · cases hat
/-- Blocks of rows of other types are others. -/
theorem own_ne {W : World} {N N' n n' sz sz' : Nat} {T T' : TypeId} {v v' : Value} {xs xs' : List Value} (h : W.ownsRow N T sz v n xs) (h' : W.ownsRow N' T' sz' v' n' xs') (hT : T ≠ T') : v.ownBlock = none ∨ v.ownBlock ≠ v'.ownBlock := by
  rcases h.2 with ⟨rfl, _⟩ | ⟨g, cap, cur, rfl, h1, h2, _⟩
  · exact .inl rfl
  · refine .inr fun e => ?_
    rcases h'.2 with ⟨rfl, _⟩ | ⟨g', cap', cur', rfl, h1', h2', _⟩
    · simp [Value.ownBlock] at e
    · have : g = g' := by simpa [Value.ownBlock] using e
      subst this
      rw [h2] at h2'
      simp at h2'
      exact hT h2'.2
/-- A row stays where a block of another type is written. -/
theorem own_set {W : World} {N n sz : Nat} {T T' : TypeId} {v : Value} {xs : List Value} {b : Nat} {cs : Array Value} {fz : Nat × Nat} (h : W.ownsRow N T sz v n xs) (hb : W.heap[b]? = some (.cells cs T' fz)) (hT : T ≠ T') (i : Nat) (u : Value) : (W.setCell ⟨b, i, none⟩ u).ownsRow N T sz v n xs := by
  refine ⟨h.1, ?_⟩
  rcases h.2 with h0 | ⟨g, cap, cur, rfl, h1, h2, h3⟩
  · exact .inl h0
  · refine .inr ⟨g, cap, cur, rfl, h1, ?_, h3⟩
    have hne : g ≠ b := fun e => by
      subst e
      rw [h2] at hb
      simp at hb
      exact hT hb.2.1
    exact (Below.heap_setCell _ _ _ _ hne).trans h2
theorem own_stay {W W' : World} {N n sz : Nat} {T : TypeId} {v : Value} {xs : List Value} (h : W.ownsRow N T sz v n xs) (hb : Below W.heap.size W W') : W'.ownsRow N T sz v n xs := by
  refine ⟨h.1, ?_⟩
  rcases h.2 with h0 | ⟨g, cap, cur, rfl, h1, h2, h3⟩
  · exact .inl h0
  · exact .inr ⟨g, cap, cur, rfl, h1, (hb.block _ (Array.getElem?_eq_some_iff.1 h2).1).trans h2, h3⟩
theorem own_mono {W : World} {N N' n sz : Nat} {T : TypeId} {v : Value} {xs : List Value} (h : W.ownsRow N T sz v n xs) (hN : N' ≤ N) : W.ownsRow N' T sz v n xs := by
  refine ⟨h.1, ?_⟩
  rcases h.2 with h0 | ⟨g, cap, cur, rfl, h1, h2, h3⟩
  · exact .inl h0
  · exact .inr ⟨g, cap, cur, rfl, Nat.le_trans hN h1, h2, h3⟩
theorem own_base {W : World} {N n sz : Nat} {T : TypeId} {v : Value} {xs : List Value} (h : W.ownsRow N T sz v n xs) : ∀ k, v.ownBlock = some k → N ≤ k := fun k hk => (h.lt k hk).1
theorem row_new (W : World) (T : TypeId) (sz : Nat) : (W.alloc (.cells #[] T)).ownsRow W.heap.size T sz (.slice (some ⟨W.heap.size, 0, none⟩) 0 0) 0 [] :=
  ⟨by simp, .inr ⟨W.heap.size, 0, #[], rfl, Nat.le_refl _, heap_alloc_new _ _, Nat.le_refl _, by unfold maxLen; omega, by simp, by simp⟩⟩
theorem info_parts {o : Option TypeInfo} {z : Option Value} {s b : Nat} (h : o.map (fun i => (i.zero, i.size, i.bytes)) = some (z, s, b)) : ∃ i, o = some i ∧ i.zero = z ∧ i.size = s ∧ i.bytes = b := by
  cases o with
  | none => simp at h
  | some i => simp at h; exact ⟨i, rfl, h.1, h.2.1, h.2.2⟩

/-- append of a list that came in (or of none) to a row of the call's own. -/
theorem run_append_ownS {P : Program} (w : World) (base : Nat) (t ty e : TypeId) (i : TypeInfo) (z : Value) (size bytes : Nat) (ht : P.underlying t = some (.slice e)) (hi : P.info? e = some i) (hz : i.zero = some z)
    (hsize : i.size = size) (hby : i.bytes = bytes) (hzs : z.cells.size = size) (hsz : 0 < size)
    (v : Value) (n : Nat) (xs : List Value) (hown : w.ownsRow base e size v n xs)
    (a : Option Addr) (m c : Nat) (news : List Value) (hl : news.length = m * size) (hnone : a = none → m = 0) (hnews : ∀ ad, a = some ad → ∀ j u, news[j]? = some u → w.cell? (ad.add j) = some u) (h1 : ∀ u ∈ news, u.oneCell' = true)
    (h63 : n + m ≤ maxLen) (hbytes : (n + m) * bytes ≤ 140737488355328) (hbase : base ≤ w.heap.size) :
    ∃ v' w', (Builtin.append_ #[t, t] ty #[v, .slice a m c]).run P w = .ok v' w' ∧ w'.ownsRow base e size v' (n + m) (xs ++ news) ∧ w.grownBy w' v.ownBlock := by
  cases a with
  | some ad =>
    obtain ⟨v', w', h1, h2, h3, _⟩ := run_append_own (P := P) w base t ty e i z size bytes ht hi hz hsize hby hzs hsz v n xs hown ad m c news hl (hnews ad rfl) h1 h63 hbytes hbase
    exact ⟨v', w', h1, h2, h3⟩
  | none =>
    obtain rfl := hnone rfl
    have hn0 : news = [] := List.eq_nil_of_length_eq_zero (by simpa using hl)
    subst hn0
    refine ⟨v, w, ?_, by simpa using hown, ⟨rfl, rfl, rfl, Nat.le_refl _, fun _ _ _ => rfl⟩⟩
    rcases hown.2 with ⟨rfl, rfl⟩ | ⟨g, cap, cur, rfl, hbg, hg, hnc, hcm, hcs, htake⟩
    · simp [Builtin.append_, run_underlying ht, sizeOf, typeInfo, hi, Builtin.lenOf, Builtin.firstCells]
    · simp [Builtin.append_, run_underlying ht, sizeOf, typeInfo, hi, Builtin.lenOf, hnc, Builtin.firstCells, storeCells]
theorem wpList_append_ownS {P : Program} (w : World) {ops : Array Oper} {rest : List Oper} {o : Oper} {a : Act} {Q : Exit → Act → World → Prop} (hgd : o.guard = none) (s x : Operand) (t : TypeId)
    (ho : o.op = .call { callee := .builtin .append, args := #[s, x], argTypes := #[t, t] })
    (base : Nat) (e : TypeId) (i : TypeInfo) (z : Value) (size bytes : Nat) (ht : P.underlying t = some (.slice e)) (hi : P.info? e = some i) (hz : i.zero = some z)
    (hsize : i.size = size) (hby : i.bytes = bytes) (hzs : z.cells.size = size) (hsz : 0 < size)
    (v : Value) (n : Nat) (xs : List Value) (hs : a.eval s = v) (hown : w.ownsRow base e size v n xs)
    (ad : Option Addr) (m c : Nat) (news : List Value) (hx : a.eval x = .slice ad m c) (hl : news.length = m * size) (hnone : ad = none → m = 0) (hnews : ∀ ad', ad = some ad' → ∀ j u, news[j]? = some u → w.cell? (ad'.add j) = some u) (h1 : ∀ u ∈ news, u.oneCell' = true)
    (h63 : n + m ≤ maxLen) (hbytes : (n + m) * bytes ≤ 140737488355328) (hbase : base ≤ w.heap.size)
    (h : ∀ v' w', w'.ownsRow base e size v' (n + m) (xs ++ news) → w.grownBy w' v.ownBlock → wpList P ops Q rest (a.put o.dst v') w') : wpList P ops Q (o :: rest) a w := by
  obtain ⟨v', w', hr, h2, h3⟩ := run_append_ownS (P := P) w base t o.type e i z size bytes ht hi hz hsize hby hzs hsz v n xs hown ad m c news hl hnone hnews h1 h63 hbytes hbase
  refine wpList_plain hgd fun K hK => ?_
  unfold Oper.wp execOp
  simp only [ho, resolve, invoke, builtin, Sem.run_bind, Sem.run_pure, Result.andThen_ok, List.map_toArray, List.map_cons, List.map_nil, hs, hx, hr]
  exact hK _ _ (h v' w' h2 h3)
theorem Tryz.infoI : (Tryz.prog.info? 2).map (fun i => (i.zero, i.size, i.bytes)) = some (some (.int .i64 0), 1, 8) := by kernel_rfl
theorem Tryz.infoN : (Tryz.prog.info? 3).map (fun i => (i.zero, i.size, i.bytes)) = some (some (.int .i64 0), 1, 8) := by kernel_rfl
theorem Tryz.infoP : (Tryz.prog.info? 38).map (fun i => (i.zero, i.size, i.bytes)) = some (some (.agg #[.int .i64 0, .int .i64 0]), 2, 16) := by kernel_rfl
theorem Tryz.infoX : (Tryz.prog.info? 36).map (fun i => (i.zero, i.size, i.bytes)) = some (some (.agg #[.int .i64 0, .int .i64 0, .int .i64 0, .int .i64 0, .int .i64 0]), 5, 40) := by kernel_rfl
theorem Tryz.infoF : (Tryz.prog.info? 34).map (fun i => (i.zero, i.size, i.bytes)) = some (some (.agg #[.string ⟨#[]⟩, .slice none 0 0, .int .i64 0, .int .i64 0, .slice none 0 0]), 5, 80) := by kernel_rfl
end Go.Proofs.YtboidkmnkicoeaaGreatDoor

/- The document's own copies: a function. -/
namespace Go.Proofs.YtboidkmnkicoeaaGreatDoor
open Go.RowKit Go.Lib Go.Sort

/-- A function g is the same as f, in memory of its own from N on. -/
def Cpd (W : World) (N : Nat) (g f : Fn) : Prop := g.name = f.name ∧ g.regs = f.regs ∧ g.words = f.words ∧ g.params = f.params ∧ g.code = f.code ∧
  W.ownsRow N 38 2 (.slice g.pa g.params.length g.pc) g.params.length (g.params.flatMap spC) ∧ W.ownsRow N 36 5 (.slice g.ca g.code.length g.cc) g.code.length (g.code.flatMap Is.cells)
theorem Cpd.stay {W W' : World} {N : Nat} {g f : Fn} (h : Cpd W N g f) (hb : Below W.heap.size W W') : Cpd W' N g f := ⟨h.1, h.2.1, h.2.2.1, h.2.2.2.1, h.2.2.2.2.1, own_stay h.2.2.2.2.2.1 hb, own_stay h.2.2.2.2.2.2 hb⟩
theorem Cpd.low {W : World} {N N' : Nat} {g f : Fn} (h : Cpd W N g f) (hN : N' ≤ N) : Cpd W N' g f := ⟨h.1, h.2.1, h.2.2.1, h.2.2.2.1, h.2.2.2.2.1, own_mono h.2.2.2.2.2.1 hN, own_mono h.2.2.2.2.2.2 hN⟩
theorem Cpd.in {W : World} {N : Nat} {g f : Fn} {w : World} (h : Cpd W N g f) (hf : f.In w) : g.In W := by
  obtain ⟨h1, h2, h3, h4, h5, h6, h7⟩ := h
  obtain ⟨f1, f2, f3, f4, f5, f6, f7⟩ := hf
  refine ⟨by rw [h1]; exact f1, by rw [h2]; exact f2, by rw [h3]; exact f3, ⟨by rw [h4]; exact f4.1, own_row h6 (fun _ => rfl) (by omega)⟩, by rw [h4]; exact f5, ⟨by rw [h5]; exact f6.1, own_row h7 (fun _ => rfl) (by omega)⟩, by rw [h5]; exact f7⟩
theorem one_sp (l : List Sp) : ∀ u ∈ l.flatMap spC, u.oneCell' = true := by
  intro u hu
  obtain ⟨x, _, hx⟩ := List.mem_flatMap.1 hu
  simp [spC] at hx
  rcases hx with rfl | rfl <;> rfl
theorem one_is (l : List Is) : ∀ u ∈ l.flatMap Is.cells, u.oneCell' = true := by
  intro u hu
  obtain ⟨x, _, hx⟩ := List.mem_flatMap.1 hu
  simp [Is.cells] at hx
  rcases hx with rfl | rfl | rfl | rfl | rfl <;> rfl
theorem one_th (l : List Int) : ∀ u ∈ l.flatMap thC, u.oneCell' = true := by
  intro u hu
  obtain ⟨x, _, hx⟩ := List.mem_flatMap.1 hu
  simp [thC] at hx
  subst hx; rfl

theorem own_put {W W' : World} {N n sz : Nat} {T T' : TypeId} {v : Value} {xs : List Value} {b : Nat} {cs : Array Value} {fz : Nat × Nat} (h : W.ownsRow N T sz v n xs) (hb : W.heap[b]? = some (.cells cs T' fz)) (hT : T ≠ T') (hk : ∀ k, k ≠ b → W'.heap[k]? = W.heap[k]?) : W'.ownsRow N T sz v n xs := by
  refine ⟨h.1, ?_⟩
  rcases h.2 with h0 | ⟨g, cap, cur, rfl, h1, h2, h3⟩
  · exact .inl h0
  · refine .inr ⟨g, cap, cur, rfl, h1, ?_, h3⟩
    have hne : g ≠ b := fun e => by
      subst e
      rw [h2] at hb
      simp at hb
      exact hT hb.2.1
    exact (hk _ hne).trans h2
theorem set5 (W : World) (b : Nat) (v0 v1 v2 v3 v4 : Value) : ∀ k, k ≠ b → (((((W.setCell ⟨b, 0, none⟩ v0).setCell ⟨b, 1, none⟩ v1).setCell ⟨b, 2, none⟩ v2).setCell ⟨b, 3, none⟩ v3).setCell ⟨b, 4, none⟩ v4).heap[k]? = W.heap[k]? := fun k hk => by
  rw [Below.heap_setCell _ _ _ _ hk, Below.heap_setCell _ _ _ _ hk, Below.heap_setCell _ _ _ _ hk, Below.heap_setCell _ _ _ _ hk, Below.heap_setCell _ _ _ _ hk]
theorem ne_some {a b : Nat} (h : a ≠ b) : some a ≠ some b := fun e => h (by injection e)
end Go.Proofs.YtboidkmnkicoeaaGreatDoor

/- The document's own copies: modules without addresses; a module. -/
namespace Go.Proofs.YtboidkmnkicoeaaGreatDoor
open Go.RowKit Go.Lib Go.Sort

/-- Without addresses. -/
def Fn.er (f : Fn) : Fn := { f with pa := none, pc := 0, ca := none, cc := 0 }
def Mo.er (m : Mo) : Mo := ⟨none, 0, m.ths, none, 0, m.funcs.map Fn.er⟩
def OwnF (W : World) (N : Nat) (g : Fn) : Prop := W.ownsRow N 38 2 (.slice g.pa g.params.length g.pc) g.params.length (g.params.flatMap spC) ∧ W.ownsRow N 36 5 (.slice g.ca g.code.length g.cc) g.code.length (g.code.flatMap Is.cells)
theorem OwnF.stay {W W' : World} {N : Nat} {g : Fn} (h : OwnF W N g) (hb : Below W.heap.size W W') : OwnF W' N g := ⟨own_stay h.1 hb, own_stay h.2 hb⟩
theorem OwnF.grown {W W' : World} {N : Nat} {g : Fn} {n : Nat} {v : Value} {xs : List Value} (h : OwnF W N g) (hv : W.ownsRow N 34 5 v n xs) (hg : W.grownBy W' v.ownBlock) : OwnF W' N g := ⟨h.1.kept hg (own_ne h.1 hv (by decide)), h.2.kept hg (own_ne h.2 hv (by decide))⟩
theorem OwnF.set {W : World} {N : Nat} {g : Fn} {b : Nat} {cs : Array Value} {fz : Nat × Nat} (h : OwnF W N g) (hb : W.heap[b]? = some (.cells cs 25 fz)) (i : Nat) (u : Value) : OwnF (W.setCell ⟨b, i, none⟩ u) N g := ⟨own_set h.1 hb (by decide) i u, own_set h.2 hb (by decide) i u⟩
theorem OwnF.in {W w : World} {N : Nat} {g f : Fn} (h : OwnF W N g) (he : g.er = f.er) (hf : f.In w) : g.In W := by
  obtain ⟨n1, _, _, p1, r1, w1, _, _, c1⟩ := g
  obtain ⟨n2, _, _, p2, r2, w2, _, _, c2⟩ := f
  simp only [Fn.er, Fn.mk.injEq] at he
  obtain ⟨rfl, _, _, rfl, rfl, rfl, _, _, rfl⟩ := he
  obtain ⟨f1, f2, f3, f4, f5, f6, f7⟩ := hf
  exact ⟨f1, f2, f3, ⟨f4.1, own_row h.1 (fun _ => rfl) (by omega)⟩, f5, ⟨f6.1, own_row h.2 (fun _ => rfl) (by omega)⟩, f7⟩
theorem Cpd.own {W : World} {N : Nat} {g f : Fn} (h : Cpd W N g f) : OwnF W N g ∧ g.er = f.er := by
  obtain ⟨h1, h2, h3, h4, h5, h6, h7⟩ := h
  exact ⟨⟨h6, h7⟩, by unfold Fn.er; rw [h1, h2, h3, h4, h5]⟩
theorem OwnF.low {W : World} {N N' : Nat} {g : Fn} (h : OwnF W N g) (hN : N' ≤ N) : OwnF W N' g := ⟨own_mono h.1 hN, own_mono h.2 hN⟩
theorem grown_other {W W' : World} {N n sz : Nat} {T T' : TypeId} {v : Value} {xs : List Value} {b : Nat} {cs : Array Value} {fz : Nat × Nat} (h : W.ownsRow N T sz v n xs) (hg : W.grownBy W' v.ownBlock) (hb : W.heap[b]? = some (.cells cs T' fz)) (hT : T ≠ T') : W'.heap[b]? = some (.cells cs T' fz) := by
  refine (hg.block b (Array.getElem?_eq_some_iff.1 hb).1 (fun e => ?_)).trans hb
  rcases h.2 with ⟨rfl, _⟩ | ⟨g, cap, cur, rfl, h1, h2, h3⟩
  · simp [Value.ownBlock] at e
  · have : b = g := by simpa [Value.ownBlock] using e
    subst this
    rw [h2] at hb
    simp at hb
    exact hT hb.2.1
theorem one_fn (g : Fn) : ∀ u ∈ g.cells, u.oneCell' = true := by
  intro u hu
  simp [Fn.cells] at hu
  rcases hu with rfl | rfl | rfl | rfl | rfl <;> rfl
/-- What the loop holds: where the boxes lie, the row of functions, and that all stand for themselves. -/
structure CpI (w W : World) (G : Nat) (m : Mo) (a1 : Option Addr) (c1 : Nat) (gs : List Fn) (v : Value) (j : Nat) : Prop where
  bm : W.heap[w.heap.size]? = some (.cells #[.slice m.ta m.ths.length m.tc, .slice m.fa m.funcs.length m.fc] 25)
  br : W.heap[w.heap.size + 1]? = some (.cells #[.slice none 0 0, .slice none 0 0] 25)
  bo : W.heap[G]? = some (.cells #[.slice a1 m.ths.length c1, v] 25)
  ot : W.ownsRow w.heap.size 2 1 (.slice a1 m.ths.length c1) m.ths.length (m.ths.flatMap thC)
  of : W.ownsRow w.heap.size 34 5 v j (gs.flatMap Fn.cells)
  hl : gs.length = j
  he : gs.map Fn.er = (m.funcs.take j).map Fn.er
  hg : ∀ g ∈ gs, OwnF W w.heap.size g
  hb : Below w.heap.size w W
theorem CpI.stay {w W W' : World} {G : Nat} {m : Mo} {a1 : Option Addr} {c1 : Nat} {gs : List Fn} {v : Value} {j : Nat} (h : CpI w W G m a1 c1 gs v j) (hb : Below W.heap.size W W') : CpI w W' G m a1 c1 gs v j :=
  ⟨(hb.block _ (Array.getElem?_eq_some_iff.1 h.bm).1).trans h.bm, (hb.block _ (Array.getElem?_eq_some_iff.1 h.br).1).trans h.br, (hb.block _ (Array.getElem?_eq_some_iff.1 h.bo).1).trans h.bo, own_stay h.ot hb, own_stay h.of hb, h.hl, h.he, fun g hg => (h.hg g hg).stay hb, Below.on h.hb hb⟩
/-- One function more. -/
theorem CpI.next {w W W' : World} {G : Nat} {m : Mo} {a1 : Option Addr} {c1 : Nat} {gs : List Fn} {v v' : Value} {j : Nat} {g f : Fn} (h : CpI w W G m a1 c1 gs v j) (hf : m.funcs[j]? = some f) (hg : OwnF W w.heap.size g) (he : g.er = f.er) (hG : w.heap.size ≤ G) (hGm : G ≠ w.heap.size) (hGr : G ≠ w.heap.size + 1)
    (ho : W'.ownsRow w.heap.size 34 5 v' (j + 1) (gs.flatMap Fn.cells ++ g.cells)) (hgr : W.grownBy W' v.ownBlock) :
    W'.heap[G]? = some (.cells #[.slice a1 m.ths.length c1, v] 25) ∧ CpI w (W'.setCell ⟨G, 1, none⟩ v') G m a1 c1 (gs ++ [g]) v' (j + 1) := by
  have bo := grown_other h.of hgr h.bo (by decide)
  refine ⟨bo, ⟨?_, ?_, ?_, ?_, ?_, ?_, ?_, ?_, ?_⟩⟩
  · exact (Below.heap_setCell _ _ _ _ hGm.symm).trans (grown_other h.of hgr h.bm (by decide))
  · exact (Below.heap_setCell _ _ _ _ hGr.symm).trans (grown_other h.of hgr h.br (by decide))
  · have := heap_setCell_same W' G 1 _ _ v' bo
    simpa using this
  · exact own_set (h.ot.kept hgr (own_ne h.ot h.of (by decide))) bo (by decide) _ _
  · rw [List.flatMap_append, show [g].flatMap Fn.cells = g.cells by simp]
    exact own_set ho bo (by decide) _ _
  · simp [h.hl]
  · have := (List.getElem?_eq_some_iff.1 hf)
    rw [List.map_append, h.he, List.take_add_one, hf]
    simp [he]
  · intro g' hg'
    rcases List.mem_append.1 hg' with h1 | h1
    · exact ((h.hg g' h1).grown h.of hgr).set bo _ _
    · rw [List.mem_singleton.1 h1]; exact (hg.grown h.of hgr).set bo _ _
  · exact (h.hb.grown hgr h.hb.size (fun k hk => own_base h.of k hk)).setCell hG _
theorem CpI.shut {w W W' : World} {G : Nat} {m : Mo} {a1 : Option Addr} {c1 : Nat} {gs : List Fn} {av : Option Addr} {cv : Nat} (h : CpI w W G m a1 c1 gs (.slice av m.funcs.length cv) m.funcs.length) (hm : m.In w) (hk : ∀ k, k ≠ w.heap.size + 1 → W'.heap[k]? = W.heap[k]?) : Mo.In W' ⟨a1, c1, m.ths, av, cv, gs⟩ ∧ Mo.er ⟨a1, c1, m.ths, av, cv, gs⟩ = m.er := by
  have he : gs.map Fn.er = m.funcs.map Fn.er := by rw [h.he, List.take_length]
  refine ⟨⟨⟨hm.1.1, own_row (own_put h.ot h.br (by decide) hk) (fun _ => rfl) (by omega)⟩, hm.2.1, ⟨?_, ?_⟩, fun g hg => ?_⟩, ?_⟩
  · show gs.length * 80 ≤ _
    rw [h.hl]; exact hm.2.2.1.1
  · exact own_row (own_put h.of h.br (by decide) hk) (fun _ => rfl) (by omega)
  · have : g.er ∈ m.funcs.map Fn.er := by rw [← he]; exact List.mem_map_of_mem hg
    obtain ⟨f, hf, e⟩ := List.mem_map.1 this
    exact (OwnF.in ⟨own_put (h.hg g hg).1 h.br (by decide) hk, own_put (h.hg g hg).2 h.br (by decide) hk⟩ e.symm (hm.2.2.2 f hf))
  · unfold Mo.er; simp only [he]
theorem set2 (W : World) (b : Nat) (v0 v1 : Value) : ∀ k, k ≠ b → ((W.setCell ⟨b, 0, none⟩ v0).setCell ⟨b, 1, none⟩ v1).heap[k]? = W.heap[k]? := fun k hk => by
  rw [Below.heap_setCell _ _ _ _ hk, Below.heap_setCell _ _ _ _ hk]
end Go.Proofs.YtboidkmnkicoeaaGreatDoor
