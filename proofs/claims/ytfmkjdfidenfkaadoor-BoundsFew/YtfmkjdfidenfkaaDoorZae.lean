/- Rows that the call owns: what is appended to them, and that they are lists. The document's own copies: a function. slices.Equal at numbers, spans and instructions; sameFunc; slices.EqualFunc; code.Same. sameFunc; slices.EqualFunc; code.Same. The document's own sameness of functions and modules. The document's own sameness of modules. Same modules; rows that the call owns, in plain words. -/
import Derived.Test.YtfmkjdfidenfkaaDoorZab
import Derived.Maps.AppendAt
import Derived.Deep.DeepAppendRoom
import Derived.Deep.AppendSrc
import Derived.Test.YtfmkjdfidenfkaaDoorCa
namespace Go.Proofs.YtfmkjdfidenfkaaDoor
open Go.RowKit Go.Sort

theorem flat_len {α : Type} {f : α → List Value} {k : Nat} (hf : ∀ x, (f x).length = k) (l : List α) : (l.flatMap f).length = l.length * k := by
  induction l with
  | nil => simp
  | cons x r ih => rw [List.flatMap_cons, List.length_append, hf, ih, List.length_cons, Nat.add_mul]; omega
theorem flatC_at {α : Type} {f : α → List Value} {k : Nat} (hf : ∀ x, (f x).length = k) (r : List Value) : ∀ (l : List α) (i : Nat) (x : α) (j : Nat), l[i]? = some x → j < k → (l.flatMap f ++ r)[i * k + j]? = (f x)[j]?
  | [], i, x, j, h, _ => by simp at h
  | y :: l, 0, x, j, h, hj => by
    simp at h; subst h
    rw [List.flatMap_cons, List.append_assoc, List.getElem?_append_left (by rw [hf]; omega)]; simp
  | y :: l, i + 1, x, j, h, hj => by
    rw [List.flatMap_cons, List.append_assoc, List.getElem?_append_right (by rw [hf, Nat.add_mul]; omega), hf]
    have := flatC_at hf r l i x j (by simpa using h) hj
    rw [← this]; congr 1; rw [Nat.add_mul]; omega
/-- The cells of a list that came in, as what is appended. -/
theorem src_news {W : World} {a : Option Addr} {α : Type} {f : α → List Value} {k : Nat} {l : List α} (h : RowIn W a k (l.map f)) (hf : ∀ x, (f x).length = k) (hk : 0 < k) : ∀ ad, a = some ad → ∀ j u, (l.flatMap f)[j]? = some u → W.cell? (ad.add j) = some u := by
  intro ad e j u hj
  have hjl := (List.getElem?_eq_some_iff.1 hj).1
  rw [flat_len hf] at hjl
  have hq : j / k < l.length := (Nat.div_lt_iff_lt_mul hk).2 hjl
  have hr : j % k < k := Nat.mod_lt _ hk
  have hd : j / k * k + j % k = j := Nat.div_add_mod' j k
  have hat := flatC_at hf [] l (j / k) l[j / k] (j % k) (List.getElem?_eq_getElem hq) hr
  rw [List.append_nil, hd, hj] at hat
  obtain ⟨b, o, e', hc⟩ := h (j / k) (f l[j / k]) (by simp [hq])
  rw [e] at e'
  cases e'
  have := hc (j % k) u hat.symm
  rw [hd] at this
  rw [Addr.add_lit]
  exact this
theorem rowIn_none {W : World} {a : Option Addr} {α : Type} {f : α → List Value} {k : Nat} {l : List α} (h : RowIn W a k (l.map f)) : a = none → l.length = 0 := by
  intro e
  cases l with
  | nil => rfl
  | cons x r => obtain ⟨b, o, e', _⟩ := h 0 (f x) (by simp); rw [e] at e'; cases e'

theorem gown_form {W : World} {N n sz : Nat} {T : TypeId} {v : Value} {xs : List Value} (h : W.ownsRow N T sz v n xs) : ∃ ao cap, v = .slice ao n cap := by
  rcases h.2 with ⟨rfl, rfl⟩ | ⟨g', cap, cur, rfl, _⟩
  · exact ⟨_, _, rfl⟩
  · exact ⟨_, _, rfl⟩
/-- A row that is owned is a list. -/
theorem own_row {W : World} {N n k : Nat} {T : TypeId} {a : Option Addr} {c : Nat} {α : Type} {f : α → List Value} {l : List α} (h : W.ownsRow N T k (.slice a n c) n (l.flatMap f)) (hf : ∀ x, (f x).length = k) (hk : 0 < k) : RowIn W a k (l.map f) := by
  intro i cs hi
  rw [List.getElem?_map, Option.map_eq_some_iff] at hi
  obtain ⟨x, hx, rfl⟩ := hi
  have hil := (List.getElem?_eq_some_iff.1 hx).1
  have hlen := h.1
  rw [flat_len hf] at hlen
  rcases h.2 with ⟨e, h0⟩ | ⟨g, cap, cur, e, h1, h2, h3, h4, h5, h6⟩
  · have : l.length * k = 0 := by rw [hlen, h0]; simp
    rcases Nat.mul_eq_zero.1 this with h | h <;> omega
  · cases e
    refine ⟨g, 0, rfl, fun j v hj => ?_⟩
    have hjk : j < k := by have := (List.getElem?_eq_some_iff.1 hj).1; rw [hf] at this; exact this
    have hat := flatC_at hf [] l i x j hx hjk
    rw [List.append_nil, hj, ← h6, List.getElem?_take] at hat
    split at hat
    · rw [Lib.cell_of_heap h2, ← Array.getElem?_toList, Nat.zero_add]; exact hat
    · cases hat
/-- Blocks of rows of other types are others. -/
theorem own_ne {W : World} {N N' n n' sz sz' : Nat} {T T' : TypeId} {v v' : Value} {xs xs' : List Value} (h : W.ownsRow N T sz v n xs) (h' : W.ownsRow N' T' sz' v' n' xs') (hT : T ≠ T') : v.ownBlock = none ∨ v.ownBlock ≠ v'.ownBlock := by
  rcases h.2 with ⟨rfl, _⟩ | ⟨g, cap, cur, rfl, h1, h2, _⟩
  · exact .inl rfl
  · refine .inr fun e => ?_
    rcases h'.2 with ⟨rfl, _⟩ | ⟨g', cap', cur', rfl, h1', h2', _⟩
    · simp [Value.ownBlock] at e
    · have : g = g' := by simpa [Value.ownBlock] using e
      subst this
      rw [h2] at h2'
      simp at h2'
      exact hT h2'.2
/-- A row stays where a block of another type is written. -/
theorem own_set {W : World} {N n sz : Nat} {T T' : TypeId} {v : Value} {xs : List Value} {b : Nat} {cs : Array Value} {fz : Nat × Nat} (h : W.ownsRow N T sz v n xs) (hb : W.heap[b]? = some (.cells cs T' fz)) (hT : T ≠ T') (i : Nat) (u : Value) : (W.setCell ⟨b, i, none⟩ u).ownsRow N T sz v n xs := by
  refine ⟨h.1, ?_⟩
  rcases h.2 with h0 | ⟨g, cap, cur, rfl, h1, h2, h3⟩
  · exact .inl h0
  · refine .inr ⟨g, cap, cur, rfl, h1, ?_, h3⟩
    have hne : g ≠ b := fun e => by
      subst e
      rw [h2] at hb
      simp at hb
      exact hT hb.2.1
    exact (Below.heap_setCell _ _ _ _ hne).trans h2
theorem own_stay {W W' : World} {N n sz : Nat} {T : TypeId} {v : Value} {xs : List Value} (h : W.ownsRow N T sz v n xs) (hb : Below W.heap.size W W') : W'.ownsRow N T sz v n xs := by
  refine ⟨h.1, ?_⟩
  rcases h.2 with h0 | ⟨g, cap, cur, rfl, h1, h2, h3⟩
  · exact .inl h0
  · exact .inr ⟨g, cap, cur, rfl, h1, (hb.block _ (Array.getElem?_eq_some_iff.1 h2).1).trans h2, h3⟩
theorem own_mono {W : World} {N N' n sz : Nat} {T : TypeId} {v : Value} {xs : List Value} (h : W.ownsRow N T sz v n xs) (hN : N' ≤ N) : W.ownsRow N' T sz v n xs := by
  refine ⟨h.1, ?_⟩
  rcases h.2 with h0 | ⟨g, cap, cur, rfl, h1, h2, h3⟩
  · exact .inl h0
  · exact .inr ⟨g, cap, cur, rfl, Nat.le_trans hN h1, h2, h3⟩
theorem own_base {W : World} {N n sz : Nat} {T : TypeId} {v : Value} {xs : List Value} (h : W.ownsRow N T sz v n xs) : ∀ k, v.ownBlock = some k → N ≤ k := fun k hk => (h.lt k hk).1
theorem row_new (W : World) (T : TypeId) (sz : Nat) : (W.alloc (.cells #[] T)).ownsRow W.heap.size T sz (.slice (some ⟨W.heap.size, 0, none⟩) 0 0) 0 [] :=
  ⟨by simp, .inr ⟨W.heap.size, 0, #[], rfl, Nat.le_refl _, heap_alloc_new _ _, Nat.le_refl _, by unfold maxLen; omega, by simp, by simp⟩⟩
theorem info_parts {o : Option TypeInfo} {z : Option Value} {s b : Nat} (h : o.map (fun i => (i.zero, i.size, i.bytes)) = some (z, s, b)) : ∃ i, o = some i ∧ i.zero = z ∧ i.size = s ∧ i.bytes = b := by
  cases o with
  | none => simp at h
  | some i => simp at h; exact ⟨i, rfl, h.1, h.2.1, h.2.2⟩

/-- append of a list that came in (or of none) to a row of the call's own. -/
theorem run_append_ownS {P : Program} (w : World) (base : Nat) (t ty e : TypeId) (i : TypeInfo) (z : Value) (size bytes : Nat) (ht : P.underlying t = some (.slice e)) (hi : P.info? e = some i) (hz : i.zero = some z)
    (hsize : i.size = size) (hby : i.bytes = bytes) (hzs : z.cells.size = size) (hsz : 0 < size)
    (v : Value) (n : Nat) (xs : List Value) (hown : w.ownsRow base e size v n xs)
    (a : Option Addr) (m c : Nat) (news : List Value) (hl : news.length = m * size) (hnone : a = none → m = 0) (hnews : ∀ ad, a = some ad → ∀ j u, news[j]? = some u → w.cell? (ad.add j) = some u) (h1 : ∀ u ∈ news, u.oneCell' = true)
    (h63 : n + m ≤ maxLen) (hbytes : (n + m) * bytes ≤ 140737488355328) (hbase : base ≤ w.heap.size) :
    ∃ v' w', (Builtin.append_ #[t, t] ty #[v, .slice a m c]).run P w = .ok v' w' ∧ w'.ownsRow base e size v' (n + m) (xs ++ news) ∧ w.grownBy w' v.ownBlock := by
  cases a with
  | some ad =>
    obtain ⟨v', w', h1, h2, h3, _⟩ := run_append_own (P := P) w base t ty e i z size bytes ht hi hz hsize hby hzs hsz v n xs hown ad m c news hl (hnews ad rfl) h1 h63 hbytes hbase
    exact ⟨v', w', h1, h2, h3⟩
  | none =>
    obtain rfl := hnone rfl
    have hn0 : news = [] := List.eq_nil_of_length_eq_zero (by simpa using hl)
    subst hn0
    refine ⟨v, w, ?_, by simpa using hown, ⟨rfl, rfl, rfl, Nat.le_refl _, fun _ _ _ => rfl⟩⟩
    rcases hown.2 with ⟨rfl, rfl⟩ | ⟨g, cap, cur, rfl, hbg, hg, hnc, hcm, hcs, htake⟩
    · simp [Builtin.append_, run_underlying ht, sizeOf, typeInfo, hi, Builtin.lenOf, Builtin.firstCells]
    · simp [Builtin.append_, run_underlying ht, sizeOf, typeInfo, hi, Builtin.lenOf, hnc, Builtin.firstCells, storeCells]
theorem wpList_append_ownS {P : Program} (w : World) {ops : Array Oper} {rest : List Oper} {o : Oper} {a : Act} {Q : Exit → Act → World → Prop} (hgd : o.guard = none) (s x : Operand) (t : TypeId)
    (ho : o.op = .call { callee := .builtin .append, args := #[s, x], argTypes := #[t, t] })
    (base : Nat) (e : TypeId) (i : TypeInfo) (z : Value) (size bytes : Nat) (ht : P.underlying t = some (.slice e)) (hi : P.info? e = some i) (hz : i.zero = some z)
    (hsize : i.size = size) (hby : i.bytes = bytes) (hzs : z.cells.size = size) (hsz : 0 < size)
    (v : Value) (n : Nat) (xs : List Value) (hs : a.eval s = v) (hown : w.ownsRow base e size v n xs)
    (ad : Option Addr) (m c : Nat) (news : List Value) (hx : a.eval x = .slice ad m c) (hl : news.length = m * size) (hnone : ad = none → m = 0) (hnews : ∀ ad', ad = some ad' → ∀ j u, news[j]? = some u → w.cell? (ad'.add j) = some u) (h1 : ∀ u ∈ news, u.oneCell' = true)
    (h63 : n + m ≤ maxLen) (hbytes : (n + m) * bytes ≤ 140737488355328) (hbase : base ≤ w.heap.size)
    (h : ∀ v' w', w'.ownsRow base e size v' (n + m) (xs ++ news) → w.grownBy w' v.ownBlock → wpList P ops Q rest (a.put o.dst v') w') : wpList P ops Q (o :: rest) a w := by
  obtain ⟨v', w', hr, h2, h3⟩ := run_append_ownS (P := P) w base t o.type e i z size bytes ht hi hz hsize hby hzs hsz v n xs hown ad m c news hl hnone hnews h1 h63 hbytes hbase
  refine wpList_plain hgd fun K hK => ?_
  unfold Oper.wp execOp
  simp only [ho, resolve, invoke, builtin, Sem.run_bind, Sem.run_pure, Result.andThen_ok, List.map_toArray, List.map_cons, List.map_nil, hs, hx, hr]
  exact hK _ _ (h v' w' h2 h3)
theorem Tryd.infoI : (Tryd.prog.info? 2).map (fun i => (i.zero, i.size, i.bytes)) = some (some (.int .i64 0), 1, 8) := by kernel_rfl
theorem Tryd.infoN : (Tryd.prog.info? 3).map (fun i => (i.zero, i.size, i.bytes)) = some (some (.int .i64 0), 1, 8) := by kernel_rfl
theorem Tryd.infoP : (Tryd.prog.info? 54).map (fun i => (i.zero, i.size, i.bytes)) = some (some (.agg #[.int .i64 0, .int .i64 0]), 2, 16) := by kernel_rfl
theorem Tryd.infoX : (Tryd.prog.info? 57).map (fun i => (i.zero, i.size, i.bytes)) = some (some (.agg #[.int .i64 0, .int .i64 0, .int .i64 0, .int .i64 0, .int .i64 0]), 5, 40) := by kernel_rfl
theorem Tryd.infoF : (Tryd.prog.info? 37).map (fun i => (i.zero, i.size, i.bytes)) = some (some (.agg #[.string ⟨#[]⟩, .slice none 0 0, .int .i64 0, .int .i64 0, .slice none 0 0]), 5, 80) := by kernel_rfl
end Go.Proofs.YtfmkjdfidenfkaaDoor
namespace Go.Proofs.YtfmkjdfidenfkaaDoor
open Go.RowKit Go.Lib Go.Sort

/-- A function g is the same as f, in memory of its own from N on. -/
def Cpd (W : World) (N : Nat) (g f : Fn) : Prop := g.name = f.name ∧ g.regs = f.regs ∧ g.words = f.words ∧ g.params = f.params ∧ g.code = f.code ∧
  W.ownsRow N 54 2 (.slice g.pa g.params.length g.pc) g.params.length (g.params.flatMap spC) ∧ W.ownsRow N 57 5 (.slice g.ca g.code.length g.cc) g.code.length (g.code.flatMap Is.cells)
theorem Cpd.stay {W W' : World} {N : Nat} {g f : Fn} (h : Cpd W N g f) (hb : Below W.heap.size W W') : Cpd W' N g f := ⟨h.1, h.2.1, h.2.2.1, h.2.2.2.1, h.2.2.2.2.1, own_stay h.2.2.2.2.2.1 hb, own_stay h.2.2.2.2.2.2 hb⟩
theorem Cpd.low {W : World} {N N' : Nat} {g f : Fn} (h : Cpd W N g f) (hN : N' ≤ N) : Cpd W N' g f := ⟨h.1, h.2.1, h.2.2.1, h.2.2.2.1, h.2.2.2.2.1, own_mono h.2.2.2.2.2.1 hN, own_mono h.2.2.2.2.2.2 hN⟩
theorem Cpd.in {W : World} {N : Nat} {g f : Fn} {w : World} (h : Cpd W N g f) (hf : f.In w) : g.In W := by
  obtain ⟨h1, h2, h3, h4, h5, h6, h7⟩ := h
  obtain ⟨f1, f2, f3, f4, f5, f6, f7⟩ := hf
  refine ⟨by rw [h1]; exact f1, by rw [h2]; exact f2, by rw [h3]; exact f3, ⟨by rw [h4]; exact f4.1, own_row h6 (fun _ => rfl) (by omega)⟩, by rw [h4]; exact f5, ⟨by rw [h5]; exact f6.1, own_row h7 (fun _ => rfl) (by omega)⟩, by rw [h5]; exact f7⟩
theorem one_sp (l : List Sp) : ∀ u ∈ l.flatMap spC, u.oneCell' = true := by
  intro u hu
  obtain ⟨x, _, hx⟩ := List.mem_flatMap.1 hu
  simp [spC] at hx
  rcases hx with rfl | rfl <;> rfl
theorem one_is (l : List Is) : ∀ u ∈ l.flatMap Is.cells, u.oneCell' = true := by
  intro u hu
  obtain ⟨x, _, hx⟩ := List.mem_flatMap.1 hu
  simp [Is.cells] at hx
  rcases hx with rfl | rfl | rfl | rfl | rfl <;> rfl
theorem one_th (l : List Int) : ∀ u ∈ l.flatMap thC, u.oneCell' = true := by
  intro u hu
  obtain ⟨x, _, hx⟩ := List.mem_flatMap.1 hu
  simp [thC] at hx
  subst hx; rfl

theorem own_put {W W' : World} {N n sz : Nat} {T T' : TypeId} {v : Value} {xs : List Value} {b : Nat} {cs : Array Value} {fz : Nat × Nat} (h : W.ownsRow N T sz v n xs) (hb : W.heap[b]? = some (.cells cs T' fz)) (hT : T ≠ T') (hk : ∀ k, k ≠ b → W'.heap[k]? = W.heap[k]?) : W'.ownsRow N T sz v n xs := by
  refine ⟨h.1, ?_⟩
  rcases h.2 with h0 | ⟨g, cap, cur, rfl, h1, h2, h3⟩
  · exact .inl h0
  · refine .inr ⟨g, cap, cur, rfl, h1, ?_, h3⟩
    have hne : g ≠ b := fun e => by
      subst e
      rw [h2] at hb
      simp at hb
      exact hT hb.2.1
    exact (hk _ hne).trans h2
theorem set5 (W : World) (b : Nat) (v0 v1 v2 v3 v4 : Value) : ∀ k, k ≠ b → (((((W.setCell ⟨b, 0, none⟩ v0).setCell ⟨b, 1, none⟩ v1).setCell ⟨b, 2, none⟩ v2).setCell ⟨b, 3, none⟩ v3).setCell ⟨b, 4, none⟩ v4).heap[k]? = W.heap[k]? := fun k hk => by
  rw [Below.heap_setCell _ _ _ _ hk, Below.heap_setCell _ _ _ _ hk, Below.heap_setCell _ _ _ _ hk, Below.heap_setCell _ _ _ _ hk, Below.heap_setCell _ _ _ _ hk]
theorem ne_some {a b : Nat} (h : a ≠ b) : some a ≠ some b := fun e => h (by injection e)
end Go.Proofs.YtfmkjdfidenfkaaDoor
namespace Go.Proofs.YtfmkjdfidenfkaaDoor
open Go.RowKit Go.Sort

theorem equalIn_sp (x y : Sp) (w : World) : (Op.equalIn 10000 54 (.agg #[.int .i64 x.1, .int .i64 x.2]) (.agg #[.int .i64 y.1, .int .i64 y.2])).run Tryd.prog w = .ok (samP x y) w := by
  have u2 := Tryd.underlying2
  have a2 := Tryd.isAgg2
  have z2 := Tryd.sizeOf2
  have hS : Tryd.prog.underlying 54 = some (.struct (Tryd.prog.fieldsOf 54)) := by kernel_rfl
  have hp : Tryd.prog.stoodInHeld 54 = false := by kernel_rfl
  rw [show (10000 : Nat) = 9999 + 1 from rfl, run_equalIn_agg w 9999 54 _ _ hS hp]
  simp only [Program.fieldsOf, Tryd.underlying54]
  go_simp
  unfold samP
  by_cases h1 : x.1 = y.1 <;> by_cases h2 : x.2 = y.2 <;> simp [h1, h2]
theorem equalIn_is (x y : Is) (w : World) : (Op.equalIn 10000 57 (.agg #[.int .i64 x.op, .int .i64 x.a, .int .i64 x.b, .int .i64 x.c, .int .i64 x.n]) (.agg #[.int .i64 y.op, .int .i64 y.a, .int .i64 y.b, .int .i64 y.c, .int .i64 y.n])).run Tryd.prog w = .ok (samX x y) w := by
  have u2 := Tryd.underlying2
  have a2 := Tryd.isAgg2
  have z2 := Tryd.sizeOf2
  have u3 := Tryd.underlying3
  have a3 := Tryd.isAgg3
  have z3 := Tryd.sizeOf3
  have hS : Tryd.prog.underlying 57 = some (.struct (Tryd.prog.fieldsOf 57)) := by kernel_rfl
  have hp : Tryd.prog.stoodInHeld 57 = false := by kernel_rfl
  rw [show (10000 : Nat) = 9999 + 1 from rfl, run_equalIn_agg w 9999 57 _ _ hS hp]
  simp only [Program.fieldsOf, Tryd.underlying57]
  go_simp
  unfold samX
  by_cases h1 : x.op = y.op <;> by_cases h2 : x.a = y.a <;> by_cases h3 : x.b = y.b <;> by_cases h4 : x.c = y.c <;> by_cases h5 : x.n = y.n <;> simp [h1, h2, h3, h4, h5]

end Go.Proofs.YtfmkjdfidenfkaaDoor
namespace Go.Proofs.YtfmkjdfidenfkaaDoor
open Go.RowKit Go.Sort

theorem samF_eq (x y : Fn) : samF x y = (x.name.toList == y.name.toList && (x.regs == y.regs && (x.words == y.words && (samPs x.params y.params && samXs x.code y.code)))) := rfl
end Go.Proofs.YtfmkjdfidenfkaaDoor
namespace Go.Proofs.YtfmkjdfidenfkaaDoor
open Go.RowKit Go.Sort

theorem two_new (w : World) (A B : Array Value) (t : TypeId) : (∀ j v, A[j]? = some v → ((w.alloc (.cells A t)).alloc (.cells B t)).cell? ⟨w.heap.size, j, none⟩ = some v) ∧ (∀ j v, B[j]? = some v → ((w.alloc (.cells A t)).alloc (.cells B t)).cell? ⟨w.heap.size + 1, j, none⟩ = some v) := by
  refine ⟨fun j v h => cell_kept_below (new_cell w A t j v h) (Below.one (Below.refl _ _) _), fun j v h => ?_⟩
  have := new_cell (w.alloc (.cells A t)) B t j v h
  rwa [World.size_alloc] at this
theorem samF_false {x y : Fn} (h : (x.name.toList == y.name.toList) = false ∨ (x.regs == y.regs) = false ∨ (x.words == y.words) = false ∨ samPs x.params y.params = false ∨ samXs x.code y.code = false) : samF x y = false := by
  rw [samF_eq]
  rcases h with h | h | h | h | h <;> simp [h]
theorem samF_rest {x y : Fn} (h1 : (x.name.toList == y.name.toList) = true) (h2 : (x.regs == y.regs) = true) (h3 : (x.words == y.words) = true) : samF x y = (samPs x.params y.params && samXs x.code y.code) := by
  rw [samF_eq, h1, h2, h3]; rfl

end Go.Proofs.YtfmkjdfidenfkaaDoor
namespace Go.Proofs.YtfmkjdfidenfkaaDoor
open Go.RowKit Go.Sort

theorem samM_false {p q : Mo} (h : samI p.ths q.ths = false ∨ samFs p.funcs q.funcs = false) : samM p q = false := by
  unfold samM
  rcases h with h | h <;> simp [h]
end Go.Proofs.YtfmkjdfidenfkaaDoor
namespace Go.Proofs.YtfmkjdfidenfkaaDoor
open Go.RowKit
theorem samI_refl : ∀ l, samI l l = true
  | [] => rfl
  | x :: l => by rw [samI, samI_refl l]; simp
theorem samPs_refl : ∀ l, samPs l l = true
  | [] => rfl
  | x :: l => by rw [samPs, samPs_refl l]; simp [samP]
theorem samXs_refl : ∀ l, samXs l l = true
  | [] => rfl
  | x :: l => by rw [samXs, samXs_refl l]; simp [samX]
end Go.Proofs.YtfmkjdfidenfkaaDoor
