/- What loops.Find has in memory. -/
import Derived.Test.YtgiokognngllcaaDoorTt
import Derived.Test.YtgiokognngllcaaDoorTh
import Derived.Test.YtgiokognngllcaaDoorTp
import Derived.Test.YtgiokognngllcaaDoorTu
namespace Go.Proofs.YtgiokognngllcaaDoor
open Go.RowKit Go.Sort

theorem Apart.symm {p q : Value} (h : Apart p q) : Apart q p := by
  unfold Apart at h ⊢
  rcases h with h1 | h1
  · rw [h1]
    cases q.ownBlock with
    | none => exact .inl rfl
    | some k => exact .inr (by simp)
  · exact .inr (Ne.symm h1)
theorem grown_keepT {W W' : World} {N n sz : Nat} {T T0 : TypeId} {v : Value} {xs : List Value} (h : W.ownsRow N T0 sz v n xs) (hg : W.grownBy W' v.ownBlock) (hT : T ≠ T0) (k : Nat) (cs : Array Value) (fz : Nat × Nat) (hk : W.heap[k]? = some (.cells cs T fz)) : W'.heap[k]? = some (.cells cs T fz) := by
  refine (hg.block k (Array.getElem?_eq_some_iff.1 hk).1 fun e => ?_).trans hk
  rcases h.2 with ⟨rfl, _⟩ | ⟨g, cap, cur, rfl, _, hgb, _⟩
  · cases e
  · cases e
    rw [hk] at hgb
    injection hgb with hgb
    injection hgb with _ hgb
    exact hT hgb
theorem G3.stay {n N : Nat} {F : Nat → Nat} {L : Nat → Nat → List Nat} {vs : Nat → List Value} {W W' : World} (h : G3 n F N L vs W) (hb : Below W.heap.size W W') : G3 n F N L vs W' :=
  ⟨fun a ha => blk_stay (h.f a ha) hb, h.len, fun a j ha hj => own_stay (h.rows a j ha hj) hb, h.ap, Nat.le_trans h.sz hb.size⟩
theorem G3.keepT {n N : Nat} {F : Nat → Nat} {L : Nat → Nat → List Nat} {vs : Nat → List Value} {W W' : World} (h : G3 n F N L vs W) (h1 : ∀ (k : Nat) (cs : Array Value) (fz : Nat × Nat), W.heap[k]? = some (.cells cs 38 fz) → W'.heap[k]? = some (.cells cs 38 fz)) (h2 : ∀ (k : Nat) (cs : Array Value) (fz : Nat × Nat), W.heap[k]? = some (.cells cs 3 fz) → W'.heap[k]? = some (.cells cs 3 fz)) (hs : W.heap.size ≤ W'.heap.size) : G3 n F N L vs W' :=
  ⟨fun a ha => h1 _ _ _ (h.f a ha), h.len, fun a j ha hj => own_keepT (h.rows a j ha hj) h2, h.ap, Nat.le_trans h.sz hs⟩
theorem G3.lsr {n N a : Nat} {F : Nat → Nat} {L : Nat → Nat → List Nat} {vs : Nat → List Value} {W : World} (h : G3 n F N L vs W) (ha : a < 3) : LsR W (some ⟨F a, 0, none⟩) n (L a) := fun j hj => by
  obtain ⟨aj, cj, e⟩ := gown_form (h.rows a j ha hj)
  have hj2 : j < (vs a).length := by rw [h.len a ha]; exact hj
  have hc : W.cell? ⟨F a, j, none⟩ = some ((vs a).getD j undef) := cell_of_obj (h.f a ha) (by rw [List.getElem?_toArray]; exact vs_at hj2)
  have hr := h.rows a j ha hj
  rw [e] at hc hr
  exact ⟨F a, 0, aj, cj, rfl, by rw [Nat.zero_add]; exact hc, own_lst hr⟩
/-- A loop that has been gathered. -/
structure Lr where
  h : Nat
  p : Int
  ma : Option Addr
  mc : Nat
  ba : Option Addr
  bc : Nat
  b : Nat
noncomputable def Lr.mv (l : List Is) (x : Lr) : Value := .slice x.ma (mbs l x.h).length x.mc
noncomputable def Lr.bv (l : List Is) (x : Lr) : Value := .slice x.ba (bks l x.h).length x.bc
noncomputable def Lr.cells (l : List Is) (x : Lr) : List Value := [.int .i64 (x.h : Int), .int .i64 x.p, x.mv l, x.bv l]
noncomputable def Lr.lo (l : List Is) (x : Lr) : Lo := ⟨x.h, x.p, mbs l x.h, bks l x.h⟩
def Lr.sv (x : Lr) : Value := .map (some x.b)
structure FI (l : List Is) (n N : Nat) (V : List Value) (xs ys : List Lr) (vl vS : Value) (W : World) : Prop where
  list : W.ownsRow N 40 4 vl xs.length (xs.flatMap (Lr.cells l))
  sets : W.ownsRow N 63 1 vS ys.length (ys.map Lr.sv)
  mem : ∀ x ∈ ys, On N (mbs l x.h) (x.mv l) W
  bac : ∀ x ∈ ys, x.h < n ∧ x.bv l = V.getD x.h undef
  mst : ∀ x ∈ ys, ∃ s, Mst W x.b s ∧ ∀ v, v ∈ s ↔ v ∈ mbs l x.h
  apm : ys.Pairwise fun x y => Apart (x.mv l) (y.mv l)
  apv : ∀ x ∈ ys, ∀ j, j < n → Apart (x.mv l) (V.getD j undef)
  hh : ys.Pairwise fun x y => x.h < y.h
theorem FI.start (l : List Is) (n N : Nat) (V : List Value) (W : World) : FI l n N V [] [] (.slice none 0 0) (.slice none 0 0) W :=
  ⟨World.ownsRow_nil _ _ _ _, World.ownsRow_nil _ _ _ _, (fun _ h => by cases h), (fun _ h => by cases h), (fun _ h => by cases h), List.Pairwise.nil, (fun _ h => by cases h), List.Pairwise.nil⟩
theorem FI.stay {l : List Is} {n N : Nat} {V : List Value} {xs ys : List Lr} {vl vS : Value} {W W' : World} (h : FI l n N V xs ys vl vS W) (hb : Below W.heap.size W W') : FI l n N V xs ys vl vS W' :=
  ⟨own_stay h.list hb, own_stay h.sets hb, fun x hx => own_stay (h.mem x hx) hb, h.bac, fun x hx => by
    obtain ⟨s, h1, h2⟩ := h.mst x hx
    exact ⟨s, h1.stay hb, h2⟩, h.apm, h.apv, h.hh⟩
/-- One more in the list. -/
theorem FI.more {l : List Is} {n N : Nat} {V : List Value} {xs ys : List Lr} {vl vS vl' : Value} {W W' : World} {x : Lr} (h : FI l n N V xs ys vl vS W) (hg : W.grownBy W' vl.ownBlock) (ho : W'.ownsRow N 40 4 vl' (xs.length + 1) (xs.flatMap (Lr.cells l) ++ x.cells l)) : FI l n N V (xs ++ [x]) ys vl' vS W' :=
  ⟨by rw [List.length_append, List.flatMap_append]; simpa using ho, own_keepT h.sets (grown_keepT h.list hg (by decide)), fun y hy => own_keepT (h.mem y hy) (grown_keepT h.list hg (by decide)), h.bac, fun y hy => by
    obtain ⟨s, h1, h2⟩ := h.mst y hy
    exact ⟨s, h1.kept hg (h1.row h.list), h2⟩, h.apm, h.apv, h.hh⟩
/-- And among the sets. -/
theorem FI.full {l : List Is} {n N : Nat} {V : List Value} {xs ys : List Lr} {vl vS vS' : Value} {W W' : World} {x : Lr} (h : FI l n N V xs ys vl vS W) (hg : W.grownBy W' vS.ownBlock) (ho : W'.ownsRow N 63 1 vS' (ys.length + 1) (ys.map Lr.sv ++ [x.sv]))
    (hm : On N (mbs l x.h) (x.mv l) W) (hb : x.h < n ∧ x.bv l = V.getD x.h undef) (hs : ∃ s, Mst W x.b s ∧ ∀ v, v ∈ s ↔ v ∈ mbs l x.h) (ha : ∀ y ∈ ys, Apart (y.mv l) (x.mv l)) (hv : ∀ j, j < n → Apart (x.mv l) (V.getD j undef)) (hlt : ∀ y ∈ ys, y.h < x.h) : FI l n N V xs (ys ++ [x]) vl vS' W' := by
  have hk := fun {T : TypeId} (hT : T ≠ 63) => grown_keepT (T := T) h.sets hg hT
  refine ⟨own_keepT h.list (hk (by decide)), by rw [List.length_append, List.map_append]; exact ho, fun y hy => ?_, fun y hy => ?_, fun y hy => ?_, ?_, fun y hy => ?_, ?_⟩
  · rcases List.mem_append.1 hy with hy | hy
    · exact own_keepT (h.mem y hy) (hk (by decide))
    · rw [List.mem_singleton] at hy; subst hy; exact own_keepT hm (hk (by decide))
  · rcases List.mem_append.1 hy with hy | hy
    · exact h.bac y hy
    · rw [List.mem_singleton] at hy; subst hy; exact hb
  · rcases List.mem_append.1 hy with hy | hy
    · obtain ⟨s, h1, h2⟩ := h.mst y hy
      exact ⟨s, h1.kept hg (h1.row h.sets), h2⟩
    · rw [List.mem_singleton] at hy
      subst hy
      obtain ⟨s, h1, h2⟩ := hs
      exact ⟨s, h1.kept hg (h1.row h.sets), h2⟩
  · refine List.pairwise_append.2 ⟨h.apm, List.pairwise_singleton _ _, fun a ha' b hb' => ?_⟩
    rw [List.mem_singleton] at hb'
    subst hb'
    exact ha a ha'
  · rcases List.mem_append.1 hy with hy | hy
    · exact h.apv y hy
    · rw [List.mem_singleton] at hy; subst hy; exact hv
  · refine List.pairwise_append.2 ⟨h.hh, List.pairwise_singleton _ _, fun a ha' b hb' => ?_⟩
    rw [List.mem_singleton] at hb'
    subst hb'
    exact hlt a ha'
theorem Tryd.infoLp : (Tryd.prog.info? 40).map (fun i => (i.zero, i.size, i.bytes)) = some (some (.agg #[.int .i64 0, .int .i64 0, .slice none 0 0, .slice none 0 0]), 4, 64) := by kernel_rfl
theorem Tryd.infoSt : (Tryd.prog.info? 63).map (fun i => (i.zero, i.size, i.bytes)) = some (some (.map none), 1, 8) := by kernel_rfl
theorem lp_app {N n : Nat} {v : Value} {xs : List Value} {W : World} (h : W.ownsRow N 40 4 v n xs) (hN : N ≤ W.heap.size) (hl : n ≤ 1000000) (c0 c1 c2 c3 : Value) (h1 : ∀ u ∈ [c0, c1, c2, c3], u.oneCell' = true) (ty : TypeId) :
    ∃ v' W', (Builtin.append_ #[27, 27] ty #[v, .slice (some ⟨W.heap.size, 0, none⟩) 1 1]).run Tryd.prog (W.alloc (.cells #[c0, c1, c2, c3] 40)) = .ok v' W' ∧ W'.ownsRow N 40 4 v' (n + 1) (xs ++ [c0, c1, c2, c3]) ∧ W.grownBy W' v.ownBlock :=
  app_one (t := 27) Tryd.underlying27 Tryd.infoLp rfl (by decide) h hN (by unfold maxLen; omega) (by omega) #[c0, c1, c2, c3] rfl h1 ty
theorem st_app {N n : Nat} {v : Value} {xs : List Value} {W : World} (h : W.ownsRow N 63 1 v n xs) (hN : N ≤ W.heap.size) (hl : n ≤ 1000000) (b : Nat) (ty : TypeId) :
    ∃ v' W', (Builtin.append_ #[61, 61] ty #[v, .slice (some ⟨W.heap.size, 0, none⟩) 1 1]).run Tryd.prog (W.alloc (.cells #[.map (some b)] 63)) = .ok v' W' ∧ W'.ownsRow N 63 1 v' (n + 1) (xs ++ [.map (some b)]) ∧ W.grownBy W' v.ownBlock :=
  app_one (t := 61) Tryd.underlying61 Tryd.infoSt rfl (by decide) h hN (by unfold maxLen; omega) (by omega) #[.map (some b)] rfl (by simp [Value.oneCell']) ty
/-- What is told, in memory. -/
structure OwnL (l : List Is) (N : Nat) (xs : List Lr) (v : Value) (W : World) : Prop where
  list : W.ownsRow N 40 4 v xs.length (xs.flatMap (Lr.cells l))
  mem : ∀ x ∈ xs, On N (mbs l x.h) (x.mv l) W
  bac : ∀ x ∈ xs, On N (bks l x.h) (x.bv l) W
  ap : (xs.flatMap fun x => [x.mv l, x.bv l]).Pairwise Apart
theorem FI.ownL {l : List Is} {n N M N0 : Nat} {F : Nat → Nat} {L : Nat → Nat → List Nat} {vs : Nat → List Value} {xs : List Lr} {vl vS : Value} {W : World} (h : FI l n N (vs 1) xs xs vl vS W) (hg : G3 n F M L vs W) (hL : ∀ j, L 1 j = bks l j) (hN : N0 ≤ N) (hM : N0 ≤ M) : OwnL l N0 xs vl W := by
  refine ⟨own_mono h.list hN, fun x hx => own_mono (h.mem x hx) hN, fun x hx => ?_, ?_⟩
  · obtain ⟨h1, h2⟩ := h.bac x hx
    have := hg.rows 1 x.h (by decide) h1
    rw [hL, ← h2] at this
    exact own_mono this hM
  · have key : ∀ zs : List Lr, (∀ x ∈ zs, x ∈ xs) → zs.Pairwise (fun x y => Apart (x.mv l) (y.mv l)) → zs.Pairwise (fun x y => x.h < y.h) → (zs.flatMap fun x => [x.mv l, x.bv l]).Pairwise Apart := by
      intro zs
      induction zs with
      | nil => intro _ _ _; exact List.Pairwise.nil
      | cons z zs ih =>
        intro hz h1 h2
        obtain ⟨a1, a2⟩ := List.pairwise_cons.1 h1
        obtain ⟨b1, b2⟩ := List.pairwise_cons.1 h2
        have hzx := hz z (List.mem_cons_self ..)
        have ih := ih (fun x hx => hz x (List.mem_cons_of_mem _ hx)) a2 b2
        have mb : ∀ y ∈ xs, Apart (z.mv l) (y.bv l) := fun y hy => by rw [(h.bac y hy).2]; exact h.apv z hzx _ (h.bac y hy).1
        have bm : ∀ y ∈ xs, Apart (z.bv l) (y.mv l) := fun y hy => by rw [(h.bac z hzx).2]; exact (h.apv y hy _ (h.bac z hzx).1).symm
        rw [List.flatMap_cons]
        refine List.pairwise_append.2 ⟨List.pairwise_cons.2 ⟨fun q hq => ?_, List.pairwise_singleton _ _⟩, ih, fun p hp q hq => ?_⟩
        · rw [List.mem_singleton] at hq
          subst hq
          exact mb z hzx
        · obtain ⟨y, hy, hq⟩ := List.mem_flatMap.1 hq
          have hyx := hz y (List.mem_cons_of_mem _ hy)
          simp only [List.mem_cons, List.not_mem_nil, or_false] at hp hq
          rcases hp with rfl | rfl <;> rcases hq with rfl | rfl
          · exact a1 y hy
          · exact mb y hyx
          · exact bm y hyx
          · rw [(h.bac z hzx).2, (h.bac y hyx).2]
            exact hg.ap 1 z.h 1 y.h (by decide) (h.bac z hzx).1 (by decide) (h.bac y hyx).1 (fun e => by have := b1 y hy; omega)
    exact key xs (fun _ h => h) h.apm h.hh
def FdP (l : List Is) (w : World) (e : Ending) (w' : World) : Prop := ∃ v xs, e = .returned (.tuple #[v, .int .i64 (((fndZ l).e : Nat) : Int), .int .i64 (((fndZ l).at' : Nat) : Int)]) ∧ xs.map (Lr.lo l) = (fndZ l).ls ∧ OwnL l w.heap.size xs v w' ∧ Below w.heap.size w w'
theorem OwnL.nil (l : List Is) (N : Nat) (W : World) : OwnL l N [] (.slice none 0 0) W := ⟨World.ownsRow_nil _ _ _ _, (fun _ h => by cases h), (fun _ h => by cases h), List.Pairwise.nil⟩
theorem errH_app {l : List Is} : ∀ (a b : List Nat), errH l a = none → errH l (a ++ b) = errH l b
  | [], _, _ => rfl
  | h :: a, b, e => by
    rw [List.cons_append, errH]
    rw [errH] at e
    by_cases hb : bks l h = []
    · rw [if_pos hb] at e ⊢
      exact errH_app a b e
    · rw [if_neg hb] at e ⊢
      cases hc : cntZ l h (bks l h) (mbs l h) with
      | some p => rw [hc] at e; cases e
      | none => rw [hc] at e; exact errH_app a b e
theorem errH_snoc {l : List Is} {k : Nat} (h : errH l (List.range k) = none) (hc : bks l k = [] ∨ cntZ l k (bks l k) (mbs l k) = none) : errH l (List.range (k + 1)) = none := by
  rw [List.range_succ, errH_app _ _ h, errH]
  by_cases hb : bks l k = []
  · rw [if_pos hb]; rfl
  · rw [if_neg hb, hc.resolve_left hb]; rfl
theorem errH_here {l : List Is} {k n : Nat} {p : Nat × Nat} (h : errH l (List.range k) = none) (hk : k < n) (hb : bks l k ≠ []) (hc : cntZ l k (bks l k) (mbs l k) = some p) : errH l (List.range n) = some p := by
  have : List.range n = List.range k ++ (k :: (List.range n).drop (k + 1)) := by
    have h1 := (List.take_append_drop k (List.range n)).symm
    rw [List.take_range, Nat.min_eq_left (by omega), List.drop_eq_getElem_cons (by rw [List.length_range]; exact hk), List.getElem_range] at h1
    exact h1
  rw [this, errH_app _ _ h, errH, if_neg hb, hc]
noncomputable def hdK (l : List Is) (k : Nat) : List Nat := (List.range k).filter fun h => !(bks l h).isEmpty
theorem hdK_no {l : List Is} {k : Nat} (h : bks l k = []) : hdK l (k + 1) = hdK l k := by unfold hdK; rw [List.range_succ, List.filter_append]; simp [h]
theorem hdK_yes {l : List Is} {k : Nat} (h : bks l k ≠ []) : hdK l (k + 1) = hdK l k ++ [k] := by
  unfold hdK
  rw [List.range_succ, List.filter_append]
  have : (bks l k).isEmpty = false := by cases e : bks l k with | nil => exact absurd e h | cons _ _ => rfl
  simp [this]
theorem hdK_lt {l : List Is} {k h : Nat} (hm : h ∈ hdK l k) : h < k := by unfold hdK at hm; rw [List.mem_filter, List.mem_range] at hm; exact hm.1
theorem flat_at {α : Type} {f : α → List Value} {k : Nat} (hf : ∀ x, (f x).length = k) : ∀ (xs : List α) (j i : Nat) (x : α) (v : Value), xs[j]? = some x → (f x)[i]? = some v → (xs.flatMap f)[j * k + i]? = some v
  | [], j, _, _, _, h, _ => by simp at h
  | y :: xs, 0, i, x, v, h, hv => by
    simp at h
    subst h
    rw [List.flatMap_cons, Nat.zero_mul, Nat.zero_add, List.getElem?_append_left (List.getElem?_eq_some_iff.1 hv).1]
    exact hv
  | y :: xs, j + 1, i, x, v, h, hv => by
    have := flat_at hf xs j i x v (by simpa using h) hv
    rw [List.flatMap_cons, List.getElem?_append_right (by rw [hf, Nat.succ_mul]; omega), hf, show (j + 1) * k + i - k = j * k + i by rw [Nat.succ_mul]; omega]
    exact this
theorem flat_set {α : Type} {f : α → List Value} {k : Nat} (hf : ∀ x, (f x).length = k) : ∀ (xs : List α) (j i : Nat) (x y : α) (v : Value), xs[j]? = some x → i < k → f y = (f x).set i v → (xs.flatMap f).set (j * k + i) v = (xs.set j y).flatMap f
  | [], j, _, _, _, _, h, _, _ => by simp at h
  | z :: xs, 0, i, x, y, v, h, hi, hy => by
    simp at h
    subst h
    rw [List.flatMap_cons, Nat.zero_mul, Nat.zero_add, List.set_append_left _ _ (by rw [hf]; exact hi), List.set_cons_zero, List.flatMap_cons, hy]
  | z :: xs, j + 1, i, x, y, v, h, hi, hy => by
    have := flat_set hf xs j i x y v (by simpa using h) hi hy
    rw [List.flatMap_cons, List.set_append_right _ _ (by rw [hf, Nat.succ_mul]; omega), hf, show (j + 1) * k + i - k = j * k + i by rw [Nat.succ_mul]; omega, this, List.set_cons_succ, List.flatMap_cons]
theorem Lr.cells_len (l : List Is) (x : Lr) : (x.cells l).length = 4 := rfl
theorem nd_same {s t : List Nat} (hs : s.Nodup) (ht : t.Nodup) (h : ∀ v, v ∈ s ↔ v ∈ t) : s.length = t.length := Nat.le_antisymm (sub_len hs fun x hx => (h x).1 hx) (sub_len ht fun x hx => (h x).2 hx)
theorem FI.pai {l : List Is} {n N : Nat} {V : List Value} {xs : List Lr} {la sa : Option Addr} {lc sc m m' : Nat} {W : World} (h : FI l n N V xs xs (.slice la m lc) (.slice sa m' sc) W) : PaI la sa (xs.map Lr.h) ((xs.map Lr.h).map (mbs l)) W := by
  have gd : ∀ {j : Nat} (hj : j < xs.length), (xs.map Lr.h).getD j 0 = (xs[j]'hj).h := fun {j} hj => by rw [List.getD_eq_getElem?_getD, List.getElem?_map, List.getElem?_eq_getElem hj]; rfl
  refine ⟨fun j hj => ?_, fun j hj => ?_⟩
  · rw [List.length_map] at hj
    have hc := flat_at (Lr.cells_len l) xs j 0 xs[j] (.int .i64 ((xs[j].h : Nat) : Int)) (List.getElem?_eq_getElem hj) rfl
    rcases h.list.2 with ⟨_, e⟩ | ⟨g, cap, cur, e, _⟩
    · have := h.list.1
      omega
    · cases e
      refine ⟨g, 0, rfl, ?_⟩
      have := h.list.cells (g := g) rfl _ _ hc
      rw [Addr.add_lit, Nat.zero_add, Nat.add_zero] at this
      rw [Nat.zero_add, gd hj]
      exact this
  · rw [List.length_map] at hj
    obtain ⟨s, h1, h2⟩ := h.mst xs[j] (List.getElem_mem hj)
    have hm : ((xs.map Lr.h).map (mbs l)).getD j [] = mbs l xs[j].h := by rw [List.getD_eq_getElem?_getD, List.getElem?_map, List.getElem?_map, List.getElem?_eq_getElem hj]; rfl
    rcases h.sets.2 with ⟨_, e⟩ | ⟨g, cap, cur, e, _⟩
    · have := h.sets.1
      omega
    · cases e
      refine ⟨g, 0, xs[j].b, s, rfl, ?_, h1, ?_, fun v => by rw [hm]; exact h2 v⟩
      · have := h.sets.cells (g := g) rfl j (.map (some xs[j].b)) (by rw [List.getElem?_map, List.getElem?_eq_getElem hj]; rfl)
        rw [Addr.add_lit, Nat.zero_add] at this
        rw [Nat.zero_add]
        exact this
      · rw [hm]; exact nd_same h1.nd (mbs_nd l _) h2
end Go.Proofs.YtgiokognngllcaaDoor
