/- Rows of the call's own that are written over, and to which is appended: what they hold stays. -/
import Derived.Test.YtboidkmnkicoeaaGreatDoorJn
import Derived.Deep.DeepAppendRoom
import Derived.Test.YtboidkmnkicoeaaGreatDoorJu
import Derived.Test.YtboidkmnkicoeaaGreatDoorWa
namespace Go.Proofs.YtboidkmnkicoeaaGreatDoor
open Go.RowKit Go.Sort

/-- An append, at a place of a list of operations. -/
theorem wplApp {ops : Array Oper} {rest : List Oper} {o : Oper} {a : Act} {Q : Exit → Act → World → Prop} {W : World} (hgd : o.guard = Option.none) (sl x : Operand) (t u : TypeId) (va vx : Value)
    (ho : o.op = .call { callee := .builtin .append, args := #[sl, x], argTypes := #[t, u] }) (hs : a.eval sl = va) (hx : a.eval x = vx) {R : Value → World → Prop}
    (hr : ∃ v' W', (Builtin.append_ #[t, u] o.type #[va, vx]).run Tryz.prog W = .ok v' W' ∧ R v' W')
    (h : ∀ v' W', R v' W' → wpList Tryz.prog ops Q rest (a.put o.dst v') W') : wpList Tryz.prog ops Q (o :: rest) a W := by
  refine wpList_plain hgd fun K hK => ?_
  obtain ⟨v', W', hr, h2⟩ := hr
  unfold Oper.wp execOp
  simp only [ho, resolve, invoke, builtin, Sem.run_bind, Sem.run_pure, Result.andThen_ok, List.map_toArray, List.map_cons, List.map_nil, hs, hx, hr]
  exact hK _ _ (h v' W' h2)
/-- One more element is appended to a row of the call's own: the row itself stays as it was. -/
theorem app_keep {P : Program} (w : World) (base : Nat) (t ty e : TypeId) (i : TypeInfo) (z : Value) (size bytes : Nat) (ht : P.underlying t = some (.slice e)) (hi : P.info? e = some i) (hz : i.zero = some z)
    (hsize : i.size = size) (hby : i.bytes = bytes) (hb1 : bytes ≤ 1000)
    (v : Value) (n : Nat) (xs : List Value) (hown : w.ownsRow base e size v n xs) (a : Addr) (c : Nat) (news : List Value) (hl : news.length = size) (hnews : ∀ j u, news[j]? = some u → w.cell? (a.add j) = some u) (h1 : ∀ u ∈ news, u.oneCell' = true) (hn : n ≤ 100000) :
    ∃ v' w', (Builtin.append_ #[t, t] ty #[v, .slice (some a) 1 c]).run P w = .ok v' w' ∧ (∃ ad c', v' = .slice ad (n + 1) c') ∧ w'.ownsRow base e size v n xs ∧ w.grownBy w' v.ownBlock := by
  have hbb : (n + 1) * bytes ≤ 140737488355328 := by
    have : (n + 1) * bytes ≤ 100001 * 1000 := Nat.mul_le_mul (by omega) hb1
    omega
  rcases hown.2 with ⟨rfl, h0⟩ | ⟨g, cap, cur, rfl, k1, k2, k3, k4, k5, k6⟩
  · subst h0
    have hx : xs = [] := List.eq_nil_of_length_eq_zero (by have := hown.1; omega)
    subst hx
    have hr := run_append_nil (P := P) w t ty e i z ht hi hz a 1 c news (by rw [hl, hsize]; omega) hnews (by omega) (by omega) (by rw [hby]; omega)
    exact ⟨_, _, hr, ⟨_, _, rfl⟩, World.ownsRow_nil _ _ _ _, ⟨rfl, rfl, rfl, by simp, fun k hk _ => Below.heap_alloc w.drew _ k hk⟩⟩
  · by_cases hroom : n + 1 ≤ cap
    · obtain ⟨w', hr, h2, h3⟩ := run_append_own_spare (P := P) w base t ty e i size ht hi hsize g n cap xs hown a 1 c news (by omega) hnews h1 hroom
      refine ⟨_, _, hr, ⟨_, _, rfl⟩, ⟨hown.1, ?_⟩, h3⟩
      rcases h2.2 with ⟨e0, _⟩ | ⟨g', cap', cur', e0, m1, m2, m3, m4, m5, m6⟩
      · cases e0
      · injection e0 with e1 _ e3
        injection e1 with e1
        injection e1 with e1
        subst e1; subst e3
        refine .inr ⟨g, cap, cur', rfl, m1, m2, by omega, m4, m5, ?_⟩
        have := congrArg (List.take (n * size)) m6
        have e4 : List.take (n * size) (xs ++ news) = xs := by rw [List.take_append_of_le_length (by rw [hown.1]; exact Nat.le_refl _), List.take_of_length_le (by rw [hown.1]; exact Nat.le_refl _)]
        rw [List.take_take, Nat.min_eq_left (Nat.mul_le_mul_right _ (by omega)), e4] at this
        exact this
    · have hr := run_append_grow (P := P) w t ty e i z ht hi hz ⟨g, 0, none⟩ n cap xs (by rw [hsize]; exact hown.1) (fun j u hj => hown.cells rfl j u hj) a 1 c news (by rw [hl, hsize]; omega) hnews (by omega) (by omega) (growslice_fits (by omega) (by rw [hby]; exact hbb))
      refine ⟨_, _, hr, ⟨_, _, rfl⟩, ⟨hown.1, .inr ⟨g, cap, cur, rfl, k1, (Below.heap_alloc w.drew _ g (Array.getElem?_eq_some_iff.1 k2).1).trans k2, k3, k4, k5, k6⟩⟩, ⟨rfl, rfl, rfl, by simp, fun k hk _ => Below.heap_alloc w.drew _ k hk⟩⟩
theorem split_at {α : Type} (l : List α) {k : Nat} (h : k < l.length) : l = l.take k ++ l[k] :: l.drop (k + 1) ∧ (l.take k).length = k := ⟨by simp, by rw [List.length_take]; omega⟩
theorem flat_put5 (l : List Is) {k : Nat} (h : k < l.length) (x : Is) : (((((l.flatMap Is.cells).set (k * 5) (.int .i64 x.op)).set (k * 5 + 1) (.int .i64 x.a)).set (k * 5 + 2) (.int .i64 x.b)).set (k * 5 + 3) (.int .i64 x.c)).set (k * 5 + 4) (.int .i64 x.n) = (l.set k x).flatMap Is.cells := by
  obtain ⟨e, hl⟩ := split_at l h
  generalize l.take k = a at *
  generalize l.drop (k + 1) = b at *
  generalize l[k] = y at *
  subst e
  have hf : (a.flatMap Is.cells).length = k * 5 := by rw [flat_len (k := 5) (fun _ => rfl), hl]
  rw [List.set_append_right _ _ (by omega), show k - a.length = 0 by omega, List.set_cons_zero]
  simp only [List.flatMap_append, List.flatMap_cons]
  rw [List.set_append_right _ _ (by omega), List.set_append_right _ _ (by omega), List.set_append_right _ _ (by omega), List.set_append_right _ _ (by omega), List.set_append_right _ _ (by omega), hf]
  congr 1
  rw [Nat.sub_self, show k * 5 + 1 - k * 5 = 1 by omega, show k * 5 + 2 - k * 5 = 2 by omega, show k * 5 + 3 - k * 5 = 3 by omega, show k * 5 + 4 - k * 5 = 4 by omega]
  simp [Is.cells]
theorem flat_put2 (l : List Sp) {k : Nat} (h : k < l.length) (x : Sp) : ((l.flatMap spC).set (k * 2) (.int .i64 x.1)).set (k * 2 + 1) (.int .i64 x.2) = (l.set k x).flatMap spC := by
  obtain ⟨e, hl⟩ := split_at l h
  generalize l.take k = a at *
  generalize l.drop (k + 1) = b at *
  generalize l[k] = y at *
  subst e
  have hf : (a.flatMap spC).length = k * 2 := by rw [flat_len (k := 2) (fun _ => rfl), hl]
  rw [List.set_append_right _ _ (by omega), show k - a.length = 0 by omega, List.set_cons_zero]
  simp only [List.flatMap_append, List.flatMap_cons]
  rw [List.set_append_right _ _ (by omega), List.set_append_right _ _ (by omega), hf]
  congr 1
  rw [Nat.sub_self, show k * 2 + 1 - k * 2 = 1 by omega]
  simp [spC]
theorem own_away {W : World} {N n sz b : Nat} {T : TypeId} {v : Value} {xs : List Value} (h : W.ownsRow N T sz v n xs) (hb : v.ownBlock ≠ some b) (i : Nat) (u : Value) : (W.setCell ⟨b, i, none⟩ u).ownsRow N T sz v n xs := by
  refine ⟨h.1, ?_⟩
  rcases h.2 with h0 | ⟨k, cap, cur, rfl, h1, h2, h3⟩
  · exact .inl h0
  · exact .inr ⟨k, cap, cur, rfl, h1, (Below.heap_setCell _ _ _ _ (fun e => hb (by simp only at e; subst e; rfl))).trans h2, h3⟩
def updF {α : Type} (C : Nat → α) (i : Nat) (x : α) : Nat → α := fun j => if j = i then x else C j
theorem upd_same {α : Type} (C : Nat → α) (i : Nat) (x : α) : updF C i x i = x := if_pos rfl
theorem upd_ne {α : Type} (C : Nat → α) {i j : Nat} (x : α) (h : j ≠ i) : updF C i x j = C j := if_neg h
/-- What the law holds while it writes over what Parse told: what the lists hold now; all that was made since lies as it lay. -/
structure LA (w : World) (H : Nat) (W3 : World) (m : Mo) (C : Nat → List Is) (Q : Nat → List Sp) (W : World) : Prop where
  b : Below w.heap.size w W
  k : ∀ k, H ≤ k → k < W3.heap.size → W.heap[k]? = W3.heap[k]?
  sz : W3.heap.size ≤ W.heap.size
  f : W.ownsRow w.heap.size 34 5 (.slice m.fa m.funcs.length m.fc) m.funcs.length (m.funcs.flatMap Fn.cells)
  c : ∀ (j : Nat) (g : Fn), m.funcs[j]? = some g → W.ownsRow w.heap.size 36 5 (codeV g) g.code.length ((C j).flatMap Is.cells) ∧ (C j).length = g.code.length
  q : ∀ (j : Nat) (g : Fn), m.funcs[j]? = some g → W.ownsRow w.heap.size 38 2 (parV g) g.params.length ((Q j).flatMap spC) ∧ (Q j).length = g.params.length
  lt : ∀ (j : Nat) (g : Fn), m.funcs[j]? = some g → (∀ k, (codeV g).ownBlock = some k → k < H) ∧ ∀ k, (parV g).ownBlock = some k → k < H
  ap : Apart m.funcs
  gl : ∀ (j : Nat) (g : Fn), m.funcs[j]? = some g → g.params.length ≤ 9 ∧ g.code.length ≤ 1025
theorem apart_ne {gs : List Fn} (h : Apart gs) {i j : Nat} {f g : Fn} (hi : gs[i]? = some f) (hj : gs[j]? = some g) (hne : i ≠ j) : (∀ k, (codeV f).ownBlock = some k → (codeV g).ownBlock ≠ some k) ∧ ∀ k, (parV f).ownBlock = some k → (parV g).ownBlock ≠ some k := by
  obtain ⟨li, rfl⟩ := List.getElem?_eq_some_iff.1 hi
  obtain ⟨lj, rfl⟩ := List.getElem?_eq_some_iff.1 hj
  have hp := List.pairwise_iff_getElem.1 h
  rcases Nat.lt_or_gt_of_ne hne with hlt | hlt
  · exact hp i j li lj hlt
  · have := hp j i lj li hlt
    exact ⟨fun k hk e => this.1 k e hk, fun k hk e => this.2 k e hk⟩
section
variable {w : World} {H : Nat} {W3 : World} {m : Mo} {C : Nat → List Is} {Q : Nat → List Sp} {W W' : World}
theorem LA.stay (h : LA w H W3 m C Q W) (hb : Below W.heap.size W W') : LA w H W3 m C Q W' :=
  ⟨h.b.trans (hb.mono h.b.size), fun k h1 h2 => (hb.block k (Nat.lt_of_lt_of_le h2 h.sz)).trans (h.k k h1 h2), Nat.le_trans h.sz hb.size, own_stay h.f hb, fun j g e => ⟨own_stay (h.c j g e).1 hb, (h.c j g e).2⟩, fun j g e => ⟨own_stay (h.q j g e).1 hb, (h.q j g e).2⟩, h.lt, h.ap, h.gl⟩
/-- A cell of a function's code, as it stands. -/
theorem LA.codeAt (h : LA w H W3 m C Q W) {i : Nat} {g : Fn} (hi : m.funcs[i]? = some g) {k : Nat} (hk : k < g.code.length) : ∃ gb cur, g.ca = some ⟨gb, 0, none⟩ ∧ W.heap[gb]? = some (.cells cur 36) ∧ w.heap.size ≤ gb ∧ gb < H ∧ ∀ (hk' : k < (C i).length) (j : Nat) (u : Value), ((C i)[k]).cells[j]? = some u → W.cell? ⟨gb, k * 5 + j, none⟩ = some u := by
  obtain ⟨ho, hl⟩ := h.c i g hi
  have hj0 : ((C i).flatMap Is.cells)[k * 5]? = ((C i)[k]'(by omega)).cells[0]? := by
    have := flatC_at (f := Is.cells) (k := 5) (fun _ => rfl) [] (C i) k ((C i)[k]'(by omega)) 0 (List.getElem?_eq_getElem (by omega)) (by omega)
    simpa using this
  obtain ⟨gb, e, _, hN, cur, hb⟩ := own_cellN ho (j := k * 5) (u := .int .i64 ((C i)[k]'(by omega)).op) (by rw [hj0]; rfl)
  refine ⟨gb, cur, e, hb, hN, (h.lt i g hi).1 gb (by rw [codeV, e]; rfl), fun hk' j u hu => ?_⟩
  have h5 : j < 5 := by have := (List.getElem?_eq_some_iff.1 hu).1; simpa [Is.cells] using this
  have hj : ((C i).flatMap Is.cells)[k * 5 + j]? = some u := by
    have := flatC_at (f := Is.cells) (k := 5) (fun _ => rfl) [] (C i) k ((C i)[k]) j (List.getElem?_eq_getElem hk') h5
    rw [List.append_nil] at this
    rw [this]; exact hu
  obtain ⟨gb', e', hc, _⟩ := own_cellN ho hj
  rw [e] at e'
  injection e' with e'
  injection e' with e'
  subst e'
  exact hc
theorem LA.parAt (h : LA w H W3 m C Q W) {i : Nat} {g : Fn} (hi : m.funcs[i]? = some g) {k : Nat} (hk : k < g.params.length) : ∃ gb cur, g.pa = some ⟨gb, 0, none⟩ ∧ W.heap[gb]? = some (.cells cur 38) ∧ w.heap.size ≤ gb ∧ gb < H ∧ ∀ (hk' : k < (Q i).length) (j : Nat) (u : Value), (spC ((Q i)[k]))[j]? = some u → W.cell? ⟨gb, k * 2 + j, none⟩ = some u := by
  obtain ⟨ho, hl⟩ := h.q i g hi
  have hj0 : ((Q i).flatMap spC)[k * 2]? = (spC ((Q i)[k]'(by omega)))[0]? := by
    have := flatC_at (f := spC) (k := 2) (fun _ => rfl) [] (Q i) k ((Q i)[k]'(by omega)) 0 (List.getElem?_eq_getElem (by omega)) (by omega)
    simpa using this
  obtain ⟨gb, e, _, hN, cur, hb⟩ := own_cellN ho (j := k * 2) (u := .int .i64 ((Q i)[k]'(by omega)).1) (by rw [hj0]; rfl)
  refine ⟨gb, cur, e, hb, hN, (h.lt i g hi).2 gb (by rw [parV, e]; rfl), fun hk' j u hu => ?_⟩
  have h5 : j < 2 := by have := (List.getElem?_eq_some_iff.1 hu).1; simpa [spC] using this
  have hj : ((Q i).flatMap spC)[k * 2 + j]? = some u := by
    have := flatC_at (f := spC) (k := 2) (fun _ => rfl) [] (Q i) k ((Q i)[k]) j (List.getElem?_eq_getElem hk') h5
    rw [List.append_nil] at this
    rw [this]; exact hu
  obtain ⟨gb', e', hc, _⟩ := own_cellN ho hj
  rw [e] at e'
  injection e' with e'
  injection e' with e'
  subst e'
  exact hc
/-- An instruction is written over. -/
theorem LA.code (h : LA w H W3 m C Q W) {i : Nat} {g : Fn} (hi : m.funcs[i]? = some g) {k gb : Nat} {cur : Array Value} (hk : k < g.code.length) (hg : g.ca = some ⟨gb, 0, none⟩) (hb : W.heap[gb]? = some (.cells cur 36)) (hN : w.heap.size ≤ gb) (hH : gb < H) (x : Is) :
    LA w H W3 m (updF C i ((C i).set k x)) Q (((((W.setCell ⟨gb, k * 5, none⟩ (.int .i64 x.op)).setCell ⟨gb, k * 5 + 1, none⟩ (.int .i64 x.a)).setCell ⟨gb, k * 5 + 2, none⟩ (.int .i64 x.b)).setCell ⟨gb, k * 5 + 3, none⟩ (.int .i64 x.c)).setCell ⟨gb, k * 5 + 4, none⟩ (.int .i64 x.n)) := by
  have hset : ∀ q, q ≠ gb → (((((W.setCell ⟨gb, k * 5, none⟩ (.int .i64 x.op)).setCell ⟨gb, k * 5 + 1, none⟩ (.int .i64 x.a)).setCell ⟨gb, k * 5 + 2, none⟩ (.int .i64 x.b)).setCell ⟨gb, k * 5 + 3, none⟩ (.int .i64 x.c)).setCell ⟨gb, k * 5 + 4, none⟩ (.int .i64 x.n)).heap[q]? = W.heap[q]? := fun q hq => by
    rw [Below.heap_setCell _ _ _ _ hq, Below.heap_setCell _ _ _ _ hq, Below.heap_setCell _ _ _ _ hq, Below.heap_setCell _ _ _ _ hq, Below.heap_setCell _ _ _ _ hq]
  have hty : ∀ {T : TypeId} {M n sz : Nat} {v : Value} {xs : List Value}, T ≠ 36 → W.ownsRow M T sz v n xs → (((((W.setCell ⟨gb, k * 5, none⟩ (.int .i64 x.op)).setCell ⟨gb, k * 5 + 1, none⟩ (.int .i64 x.a)).setCell ⟨gb, k * 5 + 2, none⟩ (.int .i64 x.b)).setCell ⟨gb, k * 5 + 3, none⟩ (.int .i64 x.c)).setCell ⟨gb, k * 5 + 4, none⟩ (.int .i64 x.n)).ownsRow M T sz v n xs := fun hT hh => own_put hh hb hT hset
  refine ⟨((((h.b.setCell hN _).setCell hN _).setCell hN _).setCell hN _).setCell hN _, fun q h1 h2 => (hset q (by omega)).trans (h.k q h1 h2), by have := h.sz; simpa [World.setCell] using this, hty (by decide) h.f, fun j f hj => ?_, fun j f hj => ⟨hty (by decide) (h.q j f hj).1, (h.q j f hj).2⟩, h.lt, h.ap, h.gl⟩
  by_cases hji : j = i
  · subst hji
    rw [hi] at hj
    injection hj with hj
    subst hj
    obtain ⟨ho, hl⟩ := h.c j g hi
    rw [upd_same]
    refine ⟨?_, by rw [List.length_set]; exact hl⟩
    rw [← flat_put5 (C j) (by omega) x, codeV, hg]
    rw [codeV, hg] at ho
    exact own_at (own_at (own_at (own_at (own_at ho _ _) _ _) _ _) _ _) _ _
  · rw [upd_ne _ _ hji]
    refine ⟨?_, (h.c j f hj).2⟩
    have hne : (codeV f).ownBlock ≠ some gb := fun e => (apart_ne h.ap hj hi hji).1 gb e (by rw [codeV, hg]; rfl)
    exact own_away (own_away (own_away (own_away (own_away (h.c j f hj).1 hne _ _) hne _ _) hne _ _) hne _ _) hne _ _
/-- A span is written over. -/
theorem LA.par (h : LA w H W3 m C Q W) {i : Nat} {g : Fn} (hi : m.funcs[i]? = some g) {k gb : Nat} {cur : Array Value} (hk : k < g.params.length) (hg : g.pa = some ⟨gb, 0, none⟩) (hb : W.heap[gb]? = some (.cells cur 38)) (hN : w.heap.size ≤ gb) (hH : gb < H) (x : Sp) :
    LA w H W3 m C (updF Q i ((Q i).set k x)) ((W.setCell ⟨gb, k * 2, none⟩ (.int .i64 x.1)).setCell ⟨gb, k * 2 + 1, none⟩ (.int .i64 x.2)) := by
  have hset : ∀ q, q ≠ gb → ((W.setCell ⟨gb, k * 2, none⟩ (.int .i64 x.1)).setCell ⟨gb, k * 2 + 1, none⟩ (.int .i64 x.2)).heap[q]? = W.heap[q]? := fun q hq => by
    rw [Below.heap_setCell _ _ _ _ hq, Below.heap_setCell _ _ _ _ hq]
  have hty : ∀ {T : TypeId} {M n sz : Nat} {v : Value} {xs : List Value}, T ≠ 38 → W.ownsRow M T sz v n xs → ((W.setCell ⟨gb, k * 2, none⟩ (.int .i64 x.1)).setCell ⟨gb, k * 2 + 1, none⟩ (.int .i64 x.2)).ownsRow M T sz v n xs := fun hT hh => own_put hh hb hT hset
  refine ⟨(h.b.setCell hN _).setCell hN _, fun q h1 h2 => (hset q (by omega)).trans (h.k q h1 h2), by have := h.sz; simpa [World.setCell] using this, hty (by decide) h.f, fun j f hj => ⟨hty (by decide) (h.c j f hj).1, (h.c j f hj).2⟩, fun j f hj => ?_, h.lt, h.ap, h.gl⟩
  by_cases hji : j = i
  · subst hji
    rw [hi] at hj
    injection hj with hj
    subst hj
    obtain ⟨ho, hl⟩ := h.q j g hi
    rw [upd_same]
    refine ⟨?_, by rw [List.length_set]; exact hl⟩
    rw [← flat_put2 (Q j) (by omega) x, parV, hg]
    rw [parV, hg] at ho
    exact own_at (own_at ho _ _) _ _
  · rw [upd_ne _ _ hji]
    refine ⟨?_, (h.q j f hj).2⟩
    have hne : (parV f).ownBlock ≠ some gb := fun e => (apart_ne h.ap hj hi hji).2 gb e (by rw [parV, hg]; rfl)
    exact own_away (own_away (h.q j f hj).1 hne _ _) hne _ _
/-- One instruction is appended, and not kept. -/
theorem LA.more (h : LA w H W3 m C Q W) {i : Nat} {g : Fn} (hi : m.funcs[i]? = some g) (x : Is) (ty : TypeId) :
    ∃ v' W', (Builtin.append_ #[32, 32] ty #[codeV g, .slice (some ⟨W.heap.size, 0, none⟩) 1 1]).run Tryz.prog (W.alloc (.cells #[.int .i64 x.op, .int .i64 x.a, .int .i64 x.b, .int .i64 x.c, .int .i64 x.n] 36)) = .ok v' W' ∧ (∃ ad c', v' = .slice ad (g.code.length + 1) c') ∧ LA w H W3 m C Q W' := by
  have bo := Below.one (Below.refl _ W) (.cells #[.int .i64 x.op, .int .i64 x.a, .int .i64 x.b, .int .i64 x.c, .int .i64 x.n] 36)
  have h1 := h.stay bo
  obtain ⟨i0, hi0, hz0, hz1, hz2⟩ := info_parts Tryz.infoX
  obtain ⟨v', W', hr, hv, ho, hg⟩ := app_keep (P := Tryz.prog) _ w.heap.size 32 ty 36 i0 _ 5 40 Tryz.underlying32 hi0 hz0 hz1 hz2 (by decide) _ _ _ (h1.c i g hi).1 ⟨W.heap.size, 0, none⟩ 1 x.cells rfl (newsT W 36 x.cells) (by intro u hu; simp [Is.cells] at hu; rcases hu with rfl | rfl | rfl | rfl | rfl <;> rfl) (by have := (h.gl i g hi).2; omega)
  refine ⟨v', W', hr, hv, ⟨h1.b.grown hg h1.b.size (fun k e => own_base (h1.c i g hi).1 k e), fun q k1 k2 => (hg.block q (Nat.lt_of_lt_of_le k2 h1.sz) (fun e => by have := (h.lt i g hi).1 q e.symm; omega)).trans (h1.k q k1 k2), Nat.le_trans h1.sz hg.size, h1.f.kept hg (own_ne h1.f (h1.c i g hi).1 (by decide)), fun j f hj => ?_, fun j f hj => ⟨(h1.q j f hj).1.kept hg (own_ne (h1.q j f hj).1 (h1.c i g hi).1 (by decide)), (h1.q j f hj).2⟩, h.lt, h.ap, h.gl⟩⟩
  by_cases hji : j = i
  · subst hji
    rw [hi] at hj
    injection hj with hj
    subst hj
    exact ⟨ho, (h1.c j g hi).2⟩
  · refine ⟨(h1.c j f hj).1.kept hg ?_, (h1.c j f hj).2⟩
    cases hq : (codeV f).ownBlock with
    | none => exact .inl rfl
    | some q => exact .inr fun e => (apart_ne h.ap hj hi hji).1 q hq e.symm
/-- One span is appended, and not kept. -/
theorem LA.wide (h : LA w H W3 m C Q W) {i : Nat} {g : Fn} (hi : m.funcs[i]? = some g) (x : Sp) (ty : TypeId) :
    ∃ v' W', (Builtin.append_ #[31, 31] ty #[parV g, .slice (some ⟨W.heap.size, 0, none⟩) 1 1]).run Tryz.prog (W.alloc (.cells #[.int .i64 x.1, .int .i64 x.2] 38)) = .ok v' W' ∧ (∃ ad c', v' = .slice ad (g.params.length + 1) c') ∧ LA w H W3 m C Q W' := by
  have bo := Below.one (Below.refl _ W) (.cells #[.int .i64 x.1, .int .i64 x.2] 38)
  have h1 := h.stay bo
  obtain ⟨i0, hi0, hz0, hz1, hz2⟩ := info_parts Tryz.infoP
  obtain ⟨v', W', hr, hv, ho, hg⟩ := app_keep (P := Tryz.prog) _ w.heap.size 31 ty 38 i0 _ 2 16 Tryz.underlying31 hi0 hz0 hz1 hz2 (by decide) _ _ _ (h1.q i g hi).1 ⟨W.heap.size, 0, none⟩ 1 (spC x) rfl (newsT W 38 (spC x)) (by intro u hu; simp [spC] at hu; rcases hu with rfl | rfl <;> rfl) (by have := (h.gl i g hi).1; omega)
  refine ⟨v', W', hr, hv, ⟨h1.b.grown hg h1.b.size (fun k e => own_base (h1.q i g hi).1 k e), fun q k1 k2 => (hg.block q (Nat.lt_of_lt_of_le k2 h1.sz) (fun e => by have := (h.lt i g hi).2 q e.symm; omega)).trans (h1.k q k1 k2), Nat.le_trans h1.sz hg.size, h1.f.kept hg (own_ne h1.f (h1.q i g hi).1 (by decide)), fun j f hj => ⟨(h1.c j f hj).1.kept hg (own_ne (h1.c j f hj).1 (h1.q i g hi).1 (by decide)), (h1.c j f hj).2⟩, fun j f hj => ?_, h.lt, h.ap, h.gl⟩⟩
  by_cases hji : j = i
  · subst hji
    rw [hi] at hj
    injection hj with hj
    subst hj
    exact ⟨ho, (h1.q j g hi).2⟩
  · refine ⟨(h1.q j f hj).1.kept hg ?_, (h1.q j f hj).2⟩
    cases hq : (parV f).ownBlock with
    | none => exact .inl rfl
    | some q => exact .inr fun e => (apart_ne h.ap hj hi hji).2 q hq e.symm
end
end Go.Proofs.YtboidkmnkicoeaaGreatDoor

/- AsmParses: the law. -/
namespace Go.Proofs.YtboidkmnkicoeaaGreatDoor
open Go.RowKit Go.Sort

theorem blk_stay {W W' : World} {k : Nat} {o : Obj} (h : W.heap[k]? = some o) (hb : Below W.heap.size W W') : W'.heap[k]? = some o := (hb.block _ (Array.getElem?_eq_some_iff.1 h).1).trans h
abbrev moC (m : Mo) : Array Value := #[.slice m.ta m.ths.length m.tc, .slice m.fa m.funcs.length m.fc]
abbrev fC (g : Fn) : Array Value := #[.string g.name, .slice g.pa g.params.length g.pc, .int .i64 g.regs, .int .i64 g.words, .slice g.ca g.code.length g.cc]
abbrev jm (i : Nat) : Is := ⟨14, 0, 0, 0, (i : Int)⟩
abbrev sn (i : Nat) : Sp := ((i : Int), 3)
def DoneC (C : Nat → List Is) (i : Nat) : Prop := ∀ q, q < (C i).length → (C i)[q]? = some (jm i)
def DoneQ (Q : Nat → List Sp) (i : Nat) : Prop := ∀ q, q < (Q i).length → (Q i)[q]? = some (sn i)
theorem rowIn_keep {W W' : World} {H : Nat} {a : Option Addr} {sz : Nat} {rows : List (List Value)} (h : RowIn W a sz rows) (ha : ∀ ad, a = some ad → H ≤ ad.block) (hk : ∀ k, H ≤ k → k < W.heap.size → W'.heap[k]? = W.heap[k]?) : RowIn W' a sz rows := by
  intro i cs hi
  obtain ⟨b, o, e, hc⟩ := h i cs hi
  refine ⟨b, o, e, fun j v hj => ?_⟩
  have h1 := hc j v hj
  have h2 := hk b (ha _ e) (lt_of_cell h1)
  unfold World.cell? at h1 ⊢
  rw [h2]; exact h1
theorem in_keep {W W' : World} {H : Nat} {n : Mo} (h : n.In W) (hn : NewM H n) (hk : ∀ k, H ≤ k → k < W.heap.size → W'.heap[k]? = W.heap[k]?) : n.In W' := by
  obtain ⟨h1, h2, h3, h4⟩ := h
  refine ⟨⟨h1.1, rowIn_keep h1.2 hn.1 hk⟩, h2, ⟨h3.1, rowIn_keep h3.2 hn.2.1 hk⟩, fun g hg => ?_⟩
  obtain ⟨k1, k2, k3, k4, k5, k6, k7⟩ := h4 g hg
  exact ⟨k1, k2, k3, ⟨k4.1, rowIn_keep k4.2 (hn.2.2 g hg).1 hk⟩, k5, ⟨k6.1, rowIn_keep k6.2 (hn.2.2 g hg).2 hk⟩, k7⟩
theorem NewM.low {N N' : Nat} {n : Mo} (h : NewM N n) (hN : N' ≤ N) : NewM N' n := ⟨fun a e => Nat.le_trans hN (h.1 a e), fun a e => Nat.le_trans hN (h.2.1 a e), fun g hg => ⟨fun a e => Nat.le_trans hN ((h.2.2 g hg).1 a e), fun a e => Nat.le_trans hN ((h.2.2 g hg).2 a e)⟩⟩
/-- Two answers to the same text tell the same module. -/
theorem par_same {s : Bt} {m n : Mo} (h1 : (parZ s).e = 0 → m.er = moD (parZ s).d) (h2 : (parZ s).e ≠ 0 → m = mo0) (k1 : (parZ s).e = 0 → n.er = moD (parZ s).d) (k2 : (parZ s).e ≠ 0 → n = mo0) : samM m n = true := by
  by_cases h : (parZ s).e = 0
  · exact samM_same ((h1 h).trans (k1 h).symm)
  · rw [h2 h, k2 h]; exact samM_same rfl
section
variable {w : World} {H : Nat} {W3 : World} {m : Mo} {C : Nat → List Is} {Q : Nat → List Sp} {W W' : World}
/-- A function as it lies in the module's list. -/
theorem LA.fn (h : LA w H W3 m C Q W) {i : Nat} {g : Fn} (hi : m.funcs[i]? = some g) : ∃ gf, m.fa = some ⟨gf, 0, none⟩ ∧ ∀ j u, (g.cells)[j]? = some u → W.cell? ⟨gf, i * 5 + j, none⟩ = some u := by
  have hat : ∀ j u, (g.cells)[j]? = some u → (m.funcs.flatMap Fn.cells)[i * 5 + j]? = some u := fun j u hu => by
    have h5 : j < 5 := by have := (List.getElem?_eq_some_iff.1 hu).1; simpa [Fn.cells] using this
    have := flatC_at (f := Fn.cells) (k := 5) (fun _ => rfl) [] m.funcs i g j hi h5
    rw [List.append_nil] at this
    rw [this]; exact hu
  obtain ⟨gf, e, _⟩ := own_cellN h.f (hat 0 _ rfl)
  refine ⟨gf, e, fun j u hu => ?_⟩
  obtain ⟨gf', e', hc, _⟩ := own_cellN h.f (hat j u hu)
  rw [e] at e'
  injection e' with e'
  injection e' with e'
  subst e'
  exact hc
theorem LA.box (h : LA w H W3 m C Q W) {b : Nat} {o : Obj} (hb : W3.heap[b]? = some o) (hH : H ≤ b) : W.heap[b]? = some o := (h.k b hH (Array.getElem?_eq_some_iff.1 hb).1).trans hb
end
theorem put5_ne (W : World) (b k : Nat) (v0 v1 v2 v3 v4 : Value) : ∀ q, q ≠ b → (((((W.setCell ⟨b, k, none⟩ v0).setCell ⟨b, k + 1, none⟩ v1).setCell ⟨b, k + 2, none⟩ v2).setCell ⟨b, k + 3, none⟩ v3).setCell ⟨b, k + 4, none⟩ v4).heap[q]? = W.heap[q]? := fun q hq => by
  rw [Below.heap_setCell _ _ _ _ hq, Below.heap_setCell _ _ _ _ hq, Below.heap_setCell _ _ _ _ hq, Below.heap_setCell _ _ _ _ hq, Below.heap_setCell _ _ _ _ hq]
theorem put2_ne (W : World) (b k : Nat) (v0 v1 : Value) : ∀ q, q ≠ b → ((W.setCell ⟨b, k, none⟩ v0).setCell ⟨b, k + 1, none⟩ v1).heap[q]? = W.heap[q]? := fun q hq => by
  rw [Below.heap_setCell _ _ _ _ hq, Below.heap_setCell _ _ _ _ hq]
theorem LA.start {w W1 W3 : World} {m : Mo} (ho : OwnA W1 w.heap.size m) (hb : Below w.heap.size w W1) (h3 : Below W1.heap.size W1 W3) : LA w W1.heap.size W3 m (fun j => (m.funcs[j]?.getD ⟨⟨#[]⟩, none, 0, [], 0, 0, none, 0, []⟩).code) (fun j => (m.funcs[j]?.getD ⟨⟨#[]⟩, none, 0, [], 0, 0, none, 0, []⟩).params) W3 := by
  refine ⟨hb.trans (h3.mono hb.size), fun _ _ _ => rfl, Nat.le_refl _, own_stay ho.f h3, fun j g e => ?_, fun j g e => ?_, fun j g e => ?_, ho.d, fun j g e => (ho.g g (List.mem_of_getElem? e)).2⟩
  · rw [e]; exact ⟨own_stay (ho.g g (List.mem_of_getElem? e)).1.2 h3, rfl⟩
  · rw [e]; exact ⟨own_stay (ho.g g (List.mem_of_getElem? e)).1.1 h3, rfl⟩
  · exact ⟨own_lt (ho.g g (List.mem_of_getElem? e)).1.2, own_lt (ho.g g (List.mem_of_getElem? e)).1.1⟩
theorem set_more {α : Type} {l : List α} {x : α} {k : Nat} (h : ∀ q, q < k → l[q]? = some x) (hk : k < l.length) : ∀ q, q < k + 1 → (l.set k x)[q]? = some x := fun q hq => by
  rw [List.getElem?_set]
  split
  · first | rfl | rw [if_pos hk]
  · exact h q (by omega)
theorem done_at {α : Type} {l : List α} {x : α} {k : Nat} (h : ∀ q, q < l.length → l[q]? = some x) (hk : k < l.length) : l[k] = x := by
  have := h k hk
  rw [List.getElem?_eq_getElem hk] at this
  exact Option.some.inj this
theorem eq_jm (i : Nat) (w : World) : (Op.equalIn 10000 36 (.agg #[.int .i64 14, .int .i64 0, .int .i64 0, .int .i64 0, .int .i64 (i : Int)]) (.agg #[.int .i64 14, .int .i64 0, .int .i64 0, .int .i64 0, .int .i64 (i : Int)])).run Tryz.prog w = .ok true w := by
  have := equalIn_is (jm i) (jm i) w
  simpa [samX] using this
theorem eq_sn (i : Nat) (w : World) : (Op.equalIn 10000 38 (.agg #[.int .i64 (i : Int), .int .i64 3]) (.agg #[.int .i64 (i : Int), .int .i64 3])).run Tryz.prog w = .ok true w := by
  have := equalIn_sp (sn i) (sn i) w
  simpa [samP] using this
theorem done_next {P : Nat → Prop} {i : Nat} (h : ∀ j, j < i → P j) (hi : P i) : ∀ j, j < i + 1 → P j := fun j hj => by
  by_cases hji : j = i
  · rw [hji]; exact hi
  · exact h j (by omega)
theorem int_next {i : Nat} (h : wrap64 ((i : Int) + 1) = (i : Int) + 1) : Value.int .i64 (wrap64 ((i : Int) + 1)) = .int .i64 ((i + 1 : Nat) : Int) := by rw [h, Int.natCast_add]; rfl
theorem meas_next {i n : Nat} (h : wrap64 ((i : Int) + 1) = (i : Int) + 1) (hlt : i < n) : n - (wrap64 ((i : Int) + 1)).toNat < n - i := by rw [h]; omega
end Go.Proofs.YtboidkmnkicoeaaGreatDoor
