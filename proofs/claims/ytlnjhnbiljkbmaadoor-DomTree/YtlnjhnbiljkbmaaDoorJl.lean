/- The rounds that narrow sets of dominators: plain. -/
import Derived.Test.YtlnjhnbiljkbmaaDoorJb
import Derived.Test.YtlnjhnbiljkbmaaDoorJf
namespace Go.Proofs.YtlnjhnbiljkbmaaDoor

/-- Who leads to v, by the edges told; of 0 nobody. -/
def frE (es : List (Nat × Nat)) (v : Nat) : List Nat := if v = 0 then [] else (es.filter fun e => e.2 == v).map (·.1)
theorem frE_nil (v : Nat) : frE [] v = [] := by unfold frE; split <;> rfl
theorem frE_snoc (es : List (Nat × Nat)) (u v w : Nat) : frE (es ++ [(u, v)]) w = if v = w ∧ v ≠ 0 then frE es w ++ [u] else frE es w := by
  unfold frE
  by_cases hw : w = 0
  · rw [if_pos hw, if_neg (by omega)]; simp [hw]
  · rw [if_neg hw, if_neg hw, List.filter_append]
    by_cases e : v = w
    · subst e; rw [if_pos ⟨rfl, hw⟩]; simp
    · rw [if_neg (by omega)]; simp [e]
theorem frE_zero (es : List (Nat × Nat)) : frE es 0 = [] := by unfold frE; simp
theorem mem_frE {es : List (Nat × Nat)} {u v : Nat} : u ∈ frE es v ↔ v ≠ 0 ∧ (u, v) ∈ es := by
  unfold frE
  split
  · rename_i h; simp [h]
  · rename_i h
    rw [List.mem_map]
    constructor
    · rintro ⟨⟨x, y⟩, hm, rfl⟩
      rw [List.mem_filter] at hm
      obtain ⟨h1, h2⟩ := hm
      simp only [beq_iff_eq] at h2
      subst h2
      exact ⟨h, h1⟩
    · rintro ⟨_, hm⟩
      exact ⟨(u, v), List.mem_filter.2 ⟨hm, by simp⟩, rfl⟩
theorem frE_len (es : List (Nat × Nat)) (v : Nat) : (frE es v).length ≤ es.length := by
  unfold frE
  split
  · simp
  · rw [List.length_map]; exact List.length_filter_le _ _
/-- What it is of a function's edges. -/
def Frs (l : List Is) (fr : Nat → List Nat) : Prop := ∀ u v, u ∈ fr v ↔ v ≠ 0 ∧ Rch l u ∧ v ∈ nxt l u
theorem frs_of {l : List Is} {rs : List Bool} (h0 : 0 < l.length) (h1 : l.length ≤ 1024) (h : IsR l rs) : Frs l (frE (edg l rs)) := by
  intro u v
  rw [mem_frE, mem_edg]
  rcases h with ⟨h, _⟩ | ⟨_, _, _, h4⟩
  · omega
  · rw [h4]
theorem Frs.some {l : List Is} {fr : Nat → List Nat} (h : Frs l fr) {v : Nat} (hv : fr v ≠ []) : Rch l v ∧ v ≠ 0 := by
  obtain ⟨u, us, e⟩ := List.exists_cons_of_ne_nil hv
  have := (h u v).1 (by rw [e]; simp)
  exact ⟨.step this.2.1 this.2.2, this.1⟩
theorem Frs.not {l : List Is} {fr : Nat → List Nat} (h : Frs l fr) {v : Nat} (hr : Rch l v) (hn : v ≠ 0) : fr v ≠ [] := by
  cases hr with
  | zero => exact absurd rfl hn
  | step hu hv => intro e
                  have := (h _ _).2 ⟨hn, hu, hv⟩
                  rw [e] at this
                  cases this

def hasA (S : List (List Nat)) (v a : Nat) : Bool := hasW (S.getD v []) a
theorem hasW_nil (a : Nat) : hasW [] a = false := by unfold hasW; simp
def newW (S : List (List Nat)) (us : List Nat) (v : Nat) : List Nat := addW (us.foldl (fun acc u => meetW acc (S.getD u [])) fullW) v
theorem fold_ok {S : List (List Nat)} (us : List Nat) (h : ∀ u ∈ us, OkW (S.getD u [])) (b : List Nat) (hb : OkW b) : OkW (us.foldl (fun acc u => meetW acc (S.getD u [])) b) := by
  induction us generalizing b with
  | nil => exact hb
  | cons u us ih => exact ih (fun x hx => h x (by simp [hx])) _ (okW_meet hb (h u (by simp)))
theorem fold_has {S : List (List Nat)} (us : List Nat) (h : ∀ u ∈ us, OkW (S.getD u [])) (b : List Nat) (hb : OkW b) (a : Nat) : hasW (us.foldl (fun acc u => meetW acc (S.getD u [])) b) a = (hasW b a && us.all fun u => hasA S u a) := by
  induction us generalizing b with
  | nil => simp
  | cons u us ih =>
    rw [List.foldl_cons, ih (fun x hx => h x (by simp [hx])) _ (okW_meet hb (h u (by simp))), has_meet hb (h u (by simp)), List.all_cons, Bool.and_assoc]
    rfl
theorem new_ok {S : List (List Nat)} {us : List Nat} (h : ∀ u ∈ us, OkW (S.getD u [])) (v : Nat) : OkW (newW S us v) := okW_add (fold_ok us h _ okW_full) v
theorem new_has {S : List (List Nat)} {us : List Nat} (h : ∀ u ∈ us, OkW (S.getD u [])) {v : Nat} (hv : v < 1024) (a : Nat) : hasW (newW S us v) a = true ↔ a = v ∨ (a < 1024 ∧ ∀ u ∈ us, hasA S u a = true) := by
  unfold newW
  rw [has_add (fold_ok us h _ okW_full) hv, fold_has us h _ okW_full, has_full]
  simp only [Bool.or_eq_true, Bool.and_eq_true, decide_eq_true_eq, List.all_eq_true, beq_iff_eq]
  exact Or.comm

structure DI (l : List Is) (fr : Nat → List Nat) (S : List (List Nat)) : Prop where
  len : S.length = l.length
  ok : ∀ (v : Nat) (ws : List Nat), S[v]? = some ws → OkW ws
  z : ∀ a : Nat, hasA S 0 a = true ↔ a = 0
  un : ∀ v a, fr v = [] → v ≠ 0 → hasA S v a = false
  sup : ∀ v a, v < l.length → Dm l a v → hasA S v a = true
  shr : ∀ v a, v < l.length → fr v ≠ [] → (a = v ∨ (a < 1024 ∧ ∀ u ∈ fr v, hasA S u a = true)) → hasA S v a = true
def EqA (fr : Nat → List Nat) (S : List (List Nat)) (v : Nat) : Prop := fr v = [] ∨ newW S (fr v) v = S.getD v []
theorem Frs.lt {l : List Is} {fr : Nat → List Nat} (h : Frs l fr) (h0 : 0 < l.length) {u v : Nat} (hu : u ∈ fr v) : u < l.length := ((h u v).1 hu).2.1.lt h0
theorem DI.okAt {l : List Is} {fr : Nat → List Nat} {S : List (List Nat)} (h : DI l fr S) {v : Nat} (hv : v < l.length) : OkW (S.getD v []) := by
  have := h.len
  refine h.ok v _ ?_
  rw [List.getD_eq_getElem?_getD, List.getElem?_eq_getElem (by omega)]
  rfl
theorem getD_set {α : Type} (S : List α) (v u : Nat) (x d : α) (hv : v < S.length) : (S.set v x).getD u d = if u = v then x else S.getD u d := by
  rw [List.getD_eq_getElem?_getD, List.getD_eq_getElem?_getD]
  by_cases e : u = v
  · subst e; rw [List.getElem?_set_self hv, if_pos rfl]; rfl
  · rw [List.getElem?_set_ne (Ne.symm e), if_neg e]
theorem hasA_set {S : List (List Nat)} {v : Nat} (x : List Nat) (hv : v < S.length) (u a : Nat) : hasA (S.set v x) u a = if u = v then hasW x a else hasA S u a := by
  unfold hasA
  rw [getD_set S v u x [] hv]
  split <;> rfl
/-- How much there is. -/
def mS (S : List (List Nat)) : Nat := (S.map sizeW).sum
theorem sum_set : ∀ (S : List (List Nat)) (v : Nat) (x : List Nat) (h : v < S.length), mS (S.set v x) + sizeW S[v] = mS S + sizeW x
  | y :: S, 0, x, _ => by simp [mS]; omega
  | y :: S, v + 1, x, h => by
    have := sum_set S v x (by simpa using h)
    simp only [mS, List.set_cons_succ, List.map_cons, List.sum_cons, List.getElem_cons_succ] at this ⊢
    omega
theorem mS_le {S : List (List Nat)} (h : ∀ ws ∈ S, OkW ws) : mS S ≤ 1024 * S.length := by
  induction S with
  | nil => simp [mS]
  | cons y S ih =>
    have h1 := ih fun ws hw => h ws (by simp [hw])
    have h2 := sizeW_le (h y (by simp))
    simp only [mS, List.map_cons, List.sum_cons, List.length_cons] at h1 ⊢
    omega
theorem DI.step {l : List Is} {fr : Nat → List Nat} {S : List (List Nat)} (h : DI l fr S) (hf : Frs l fr) (h0 : 0 < l.length) (h1 : l.length ≤ 1024) {v : Nat} (hv : v < l.length) (hn : fr v ≠ []) (hne : newW S (fr v) v ≠ S.getD v []) : DI l fr (S.set v (newW S (fr v) v)) ∧ mS (S.set v (newW S (fr v) v)) < mS S := by
  have hl := h.len
  have hok : ∀ u ∈ fr v, OkW (S.getD u []) := fun u hu => h.okAt (hf.lt h0 hu)
  have hnew := new_ok hok v
  have hh := fun a => new_has hok (v := v) (by omega) a
  have hsub : ∀ a, hasW (newW S (fr v) v) a = true → hasA S v a = true := fun a ha => h.shr v a hv hn ((hh a).1 ha)
  have hs := fun u a => hasA_set (newW S (fr v) v) (by omega : v < S.length) u a
  have hle : ∀ u a, hasA (S.set v (newW S (fr v) v)) u a = true → hasA S u a = true := by
    intro u a
    rw [hs]
    split
    · rename_i e; subst e; exact hsub a
    · exact id
  have hvz : v ≠ 0 := (hf.some hn).2
  refine ⟨⟨by rw [List.length_set, hl], fun u ws hu => ?_, fun a => ?_, fun u a hu hz => ?_, fun u a hu hd => ?_, fun u a hu hfu ha => ?_⟩, ?_⟩
  · rw [List.getElem?_set] at hu
    split at hu
    · split at hu
      · cases hu; exact hnew
      · cases hu
    · exact h.ok u ws hu
  · rw [hs, if_neg (Ne.symm hvz)]; exact h.z a
  · rw [hs, if_neg (by rintro rfl; exact hn hu)]; exact h.un u a hu hz
  · rw [hs]
    split
    · rename_i e
      subst e
      rw [hh]
      by_cases e : a = u
      · exact .inl e
      · have := hd.left.lt h0
        exact .inr ⟨by omega, fun x hx => h.sup x a (hf.lt h0 hx) (hd.edge ((hf x u).1 hx).2.1 ((hf x u).1 hx).2.2 e)⟩
    · exact h.sup u a hu hd
  · rw [hs]
    have ha' : a = u ∨ (a < 1024 ∧ ∀ x ∈ fr u, hasA S x a = true) := by
      rcases ha with ha | ⟨ha, hb⟩
      · exact .inl ha
      · exact .inr ⟨ha, fun x hx => hle x a (hb x hx)⟩
    split
    · rename_i e
      subst e
      exact (hh a).2 ha'
    · exact h.shr u a hu hfu ha'
  · have h2 := sum_set S v (newW S (fr v) v) (by omega)
    have h3 : S.getD v [] = S[v]'(by omega) := by rw [List.getD_eq_getElem?_getD, List.getElem?_eq_getElem (by omega)]; rfl
    have h4 := sizeW_lt hnew (h.okAt hv) hsub hne
    rw [h3] at h4
    omega
theorem DI.done {l : List Is} {fr : Nat → List Nat} {S : List (List Nat)} (h : DI l fr S) (hf : Frs l fr) (h0 : 0 < l.length) (h1 : l.length ≤ 1024) (he : ∀ v, v < l.length → EqA fr S v) {v : Nat} (hv : v < l.length) (a : Nat) : hasA S v a = true ↔ Dm l a v := by
  refine ⟨fun ha => ?_, h.sup v a hv⟩
  have hr : Rch l v := by
    refine Classical.byContradiction fun hn => ?_
    have hz : v ≠ 0 := by rintro rfl; exact hn .zero
    have : fr v = [] := Classical.byContradiction fun hc => hn (hf.some hc).1
    rw [h.un v a this hz] at ha
    cases ha
  refine ⟨hr, fun hw => ?_⟩
  have key : ∀ u, RchW l (a : Int) u → hasA S u a = false := by
    intro u hu
    generalize hg : (a : Int) = g at hu
    induction hu with
    | zero hz =>
      cases e : hasA S 0 a with
      | false => rfl
      | true => have := (h.z a).1 e
                omega
    | @step x u hx hxu hn ih =>
      cases e : hasA S u a with
      | false => rfl
      | true =>
        have hul : u < l.length := nxt_lt hxu
        by_cases hz : u = 0
        · subst hz
          have := (h.z a).1 e
          omega
        · have hxm : x ∈ fr u := (hf x u).2 ⟨hz, RchW.rch hx, hxu⟩
          rcases he u hul with h2 | h2
          · rw [h2] at hxm; cases hxm
          · unfold hasA at e
            rw [← h2] at e
            rcases (new_has (fun y hy => h.okAt (hf.lt h0 hy)) (by omega) a).1 e with h3 | ⟨_, h3⟩
            · omega
            · rw [← ih]; exact (h3 x hxm).symm
  rw [key v hw] at ha
  cases ha
/-- What the rounds begin with. -/
def begS (n : Nat) (fr : Nat → List Nat) : List (List Nat) := (List.range n).map fun v => if v = 0 then addW zeroW 0 else if fr v = [] then zeroW else fullW
theorem begS_at {n : Nat} {fr : Nat → List Nat} {v : Nat} (h : v < n) : (begS n fr).getD v [] = if v = 0 then addW zeroW 0 else if fr v = [] then zeroW else fullW := by
  unfold begS
  rw [List.getD_eq_getElem?_getD, List.getElem?_map, List.getElem?_range h]
  rfl
theorem begS_DI {l : List Is} {fr : Nat → List Nat} (hf : Frs l fr) (h0 : 0 < l.length) (h1 : l.length ≤ 1024) : DI l fr (begS l.length fr) := by
  have hz := fun a => has_add okW_zero (by omega : 0 < 1024) a
  refine ⟨by simp [begS], fun v ws hv => ?_, fun a => ?_, fun v a hv hn => ?_, fun v a hv hd => ?_, fun v a hv hn ha => ?_⟩
  · have := List.mem_of_getElem? hv
    unfold begS at this
    obtain ⟨u, _, rfl⟩ := List.mem_map.1 this
    split
    · exact okW_add okW_zero 0
    · split
      · exact okW_zero
      · exact okW_full
  · unfold hasA
    rw [begS_at h0, if_pos rfl, hz, has_zero]
    simp
  · unfold hasA
    by_cases hl : v < l.length
    · rw [begS_at hl, if_neg hn, if_pos hv, has_zero]
    · rw [List.getD_eq_getElem?_getD, List.getElem?_eq_none (by simp [begS]; omega)]
      exact hasW_nil a
  · have := hd.left.lt h0
    unfold hasA
    rw [begS_at hv]
    split
    · rename_i e
      subst e
      rw [hz, has_zero, dm_at_zero.1 hd]
      rfl
    · rename_i e
      rw [if_neg (hf.not hd.1 e), has_full]
      exact decide_eq_true (by omega)
  · have : a < 1024 := by
      rcases ha with rfl | ha
      · omega
      · exact ha.1
    unfold hasA
    rw [begS_at hv]
    split
    · rename_i e
      exact absurd e (hf.some hn).2
    · first | rw [if_neg hn, has_full] | rw [has_full]
      exact decide_eq_true this
/-- What sizes are, and whose nearest is whose. -/
theorem size_dm {l : List Is} {ws : List Nat} {v : Nat} (h0 : 0 < l.length) (hk : OkW ws) (h : ∀ a, hasW ws a = true ↔ Dm l a v) : sizeW ws = dmC l v := by
  rw [← elW_count hk]
  refine Nat.le_antisymm ?_ ?_
  · exact sub_len (elW_nd ws) fun x hx => (mem_dmL h0).2 ((h x).1 ((mem_elW hk).1 hx))
  · exact sub_len (dmL_nd l v) fun x hx => (mem_elW hk).2 ((h x).2 ((mem_dmL h0).1 hx))
end Go.Proofs.YtlnjhnbiljkbmaaDoor

/- Rows that a block's cells hold: what dom.leaders has in memory. -/
namespace Go.Proofs.YtlnjhnbiljkbmaaDoor
open Go.RowKit Go.Shelf

structure LD (w : World) (n x3 F N : Nat) (fr : Nat → List Nat) (vs : List Value) (W : World) : Prop where
  b3 : Boxed W x3 60 (.slice (some ⟨F, 0, none⟩) n n)
  f : W.heap[F]? = some (.cells vs.toArray 34 (0, 0))
  len : vs.length = n
  rows : ∀ j, j < n → On N (fr j) (vs.getD j undef) W
  ap : ∀ i j, i < n → j < n → i ≠ j → Apart (vs.getD i undef) (vs.getD j undef)
  b : Below w.heap.size w W
  sz : N ≤ W.heap.size
theorem cells_grown {W W' : World} {F : Nat} {cs : Array Value} {T : TypeId} {fz : Nat × Nat} {row : Option Nat} (h : W.heap[F]? = some (.cells cs T fz)) (hg : W.grownBy W' row) (hr : ∀ r, row = some r → ∃ o : Obj, W.heap[r]? = some o ∧ o.isCells = false) : W'.heap[F]? = some (.cells cs T fz) :=
  (hg.block F (Array.getElem?_eq_some_iff.1 h).1 (fun e => by
    obtain ⟨o, ho, hc⟩ := hr F e.symm
    rw [h] at ho; cases ho; cases hc)).trans h
theorem LD.own (w : World) {n x3 F N B : Nat} {β : Type} (fr : β → Nat → List Nat) (hB : w.heap.size ≤ B) : OwnFrom B (fun (s : β) W => ∃ vs, LD w n x3 F N (fr s) vs W) := fun _ _ _ _ ⟨vs, h⟩ hg hr =>
  ⟨vs, boxed_grown h.b3 hg (fun r e => (hr r e).2), cells_grown h.f hg (fun r e => (hr r e).2), h.len, fun j hj => own_grown (h.rows j hj) hg (fun r e => (hr r e).2), h.ap, h.b.grown hg h.b.size (fun k e => Nat.le_trans hB (hr k e).1), Nat.le_trans h.sz hg.size⟩
theorem vs_at {vs : List Value} {v : Nat} (h : v < vs.length) : vs[v]? = some (vs.getD v undef) := by rw [List.getD_eq_getElem?_getD, List.getElem?_eq_getElem h]; rfl
theorem vs_set {vs : List Value} {v j : Nat} (h : v < vs.length) (x : Value) : (vs.set v x).getD j undef = if j = v then x else vs.getD j undef := by
  rw [List.getD_eq_getElem?_getD, List.getD_eq_getElem?_getD]
  by_cases e : j = v
  · subst e; rw [List.getElem?_set_self h, if_pos rfl]; rfl
  · rw [List.getElem?_set_ne (Ne.symm e), if_neg e]
/-- A row of numbers lies in no block of rows. -/
theorem row_ne {W : World} {F N n : Nat} {cs : Array Value} {v : Value} {xs : List Value} (hf : W.heap[F]? = some (.cells cs 34 (0, 0))) (h : W.ownsRow N 3 1 v n xs) : v.ownBlock ≠ some F := fun e => by
  rcases h.2 with ⟨rfl, _⟩ | ⟨g, cap, cur, rfl, _, hg, _⟩
  · cases e
  · cases e
    rw [hf] at hg
    injection hg with hg
    injection hg with _ hg
    exact absurd hg (by decide)
/-- Behind an append to row v, and the store of what it told. -/
theorem LD.next {w : World} {n x3 F N : Nat} {fr fr' : Nat → List Nat} {vs : List Value} {W W' : World} {v u : Nat} {v' : Value} (h : LD w n x3 F N fr vs W) (hv : v < n) (hx : x3 < N) (hxF : x3 ≠ F) (hwF : w.heap.size ≤ F) (hwN : w.heap.size ≤ N)
    (hn : On N (fr v ++ [u]) v' W') (hg : W.grownBy W' (vs.getD v undef).ownBlock) (ho : v'.ownBlock = (vs.getD v undef).ownBlock ∨ v'.ownBlock = some (W.heap.size + 1)) (e1 : fr' v = fr v ++ [u]) (e2 : ∀ j, j ≠ v → fr' j = fr j) :
    LD w n x3 F N fr' (vs.set v v') (W'.setCell ⟨F, v, none⟩ v') := by
  have hl := h.len
  have hne := row_ne h.f (h.rows v hv)
  have hf' : W'.heap[F]? = some (.cells vs.toArray 34 (0, 0)) := (hg.block F (Array.getElem?_eq_some_iff.1 h.f).1 (Ne.symm hne)).trans h.f
  have hb3 : Boxed W' x3 60 (.slice (some ⟨F, 0, none⟩) n n) := h.b3.kept hg fun e => by
    have := own_base (h.rows v hv) x3 e.symm
    omega
  have keep : ∀ {m : Nat} {q : Value} {xs : List Value}, W'.ownsRow N 3 1 q m xs → (W'.setCell ⟨F, v, none⟩ v').ownsRow N 3 1 q m xs := fun {m q xs} hq => by
    refine hq.kept (row := some F) ⟨rfl, rfl, rfl, by simp, fun k _ hk => heap_setCell_other W' ⟨F, v, none⟩ k v' fun e => hk (by rw [e])⟩ (.inr (row_ne hf' hq))
  refine ⟨?_, ?_, by rw [List.length_set, hl], fun j hj => ?_, fun i j hi hj hij => ?_, ?_, by simp only [World.setCell, Array.size_modify]; exact Nat.le_trans h.sz hg.size⟩
  · exact (heap_setCell_other W' ⟨F, v, none⟩ x3 v' hxF).trans hb3
  · have := heap_setCell_same W' F v vs.toArray 34 v' hf'
    rw [List.setIfInBounds_toArray] at this
    exact this
  · rw [vs_set (by omega)]
    split
    · rename_i e; subst e; rw [e1]; exact keep hn
    · rename_i e
      rw [e2 j e]
      exact keep ((h.rows j hj).kept hg (h.ap j v hj hv e))
  · rw [vs_set (by omega), vs_set (by omega)]
    have fresh : ∀ {a : Nat}, a < n → Apart (vs.getD a undef) (vs.getD v undef) → Apart (vs.getD a undef) v' := fun {a} ha hap => Apart.next hap (h.rows a ha) ho
    split
    · rename_i e
      subst e
      rw [if_neg (Ne.symm hij)]
      have := fresh hj (h.ap j i hj hi (Ne.symm hij))
      unfold Apart at this ⊢
      rcases this with h1 | h1
      · rw [h1]
        cases v'.ownBlock with
        | none => exact .inl rfl
        | some k => exact .inr (by simp)
      · exact .inr (Ne.symm h1)
    · rename_i e
      split
      · rename_i e3; subst e3; exact fresh hi (h.ap i j hi hj hij)
      · exact h.ap i j hi hj hij
  · refine Below.setCell (p := ⟨F, v, none⟩) ?_ hwF v'
    exact h.b.grown hg h.b.size fun k e => by have := own_base (h.rows v hv) k e; omega
/-- What such a round keeps. -/
theorem LD.kp {w : World} {n x3 F N A i : Nat} {fr : Nat → List Nat} {vs : List Value} {W W' : World} {v u : Nat} {v' : Value} (h : LD w n x3 F N fr vs W) (hv : v < n) (hFA : F < A) (hAN : A ≤ N) (hNi : N ≤ i)
    (hn : On N (fr v ++ [u]) v' W') (hg : W.grownBy W' (vs.getD v undef).ownBlock) (ho : v'.ownBlock = (vs.getD v undef).ownBlock ∨ v'.ownBlock = some (W.heap.size + 1)) :
    KpF A N F i W (W'.setCell ⟨F, v, none⟩ v') := by
  have hl := h.len
  have hne := row_ne h.f (h.rows v hv)
  have hf' : W'.heap[F]? = some (.cells vs.toArray 34 (0, 0)) := (hg.block F (Array.getElem?_eq_some_iff.1 h.f).1 (Ne.symm hne)).trans h.f
  have hvl : v < vs.length := by omega
  have hmem : ∀ k, (vs.getD v undef).ownBlock = some k → dS F W k := fun k e => ⟨_, _, _, h.f, vs.getD v undef, List.mem_of_getElem? (vs_at hvl), e⟩
  have hs : (W'.setCell ⟨F, v, none⟩ v').heap.size = W'.heap.size := by simp
  refine ⟨by rw [hs]; exact hg.size, fun k o hk hko => ?_, fun k o hk hd hko => ?_, fun k hd => ?_⟩
  · have hk1 := hk.1
    refine (heap_setCell_other W' ⟨F, v, none⟩ k v' (show k ≠ F by omega)).trans ((hg.block k (Array.getElem?_eq_some_iff.1 hko).1 fun e => ?_).trans hko)
    have := own_base (h.rows v hv) k e.symm
    omega
  · refine (heap_setCell_other W' ⟨F, v, none⟩ k v' (show k ≠ F by omega)).trans ((hg.block k (Array.getElem?_eq_some_iff.1 hko).1 fun e => ?_).trans hko)
    exact hd (hmem k e.symm)
  · obtain ⟨cs, T, fz, h1, q, hq, e⟩ := hd
    have := heap_setCell_same W' F v vs.toArray 34 v' hf'
    rw [List.setIfInBounds_toArray, h1] at this
    injection this with this
    injection this with this
    subst this
    rw [List.toList_toArray] at hq
    rcases List.mem_or_eq_of_mem_set hq with hq | rfl
    · exact .inl ⟨_, _, _, h.f, q, hq, e⟩
    · rcases ho with ho | ho
      · exact .inl (hmem k (by rw [← ho, e]))
      · rw [ho] at e
        cases e
        rw [hs]
        exact .inr ⟨by omega, (hn.lt _ ho).2⟩
theorem LD.others {w : World} {n x3 F N : Nat} {fr : Nat → List Nat} {vs : List Value} {W W' : World} {v : Nat} {v' : Value} (h : LD w n x3 F N fr vs W) (hv : v < n) (hg : W.grownBy W' (vs.getD v undef).ownBlock) : KeepsOthers W (W'.setCell ⟨F, v, none⟩ v') := by
  refine (KeepsOthers.of_grownBy hg fun j o ej hj => ?_).trans (KeepsOthers.setCell _ _ _)
  rcases (h.rows v hv).2 with ⟨e, _⟩ | ⟨g, cap, cur, e, _, hgb, _⟩
  · rw [e] at ej; cases ej
  · rw [e] at ej
    cases ej
    rw [hgb] at hj; cases hj; rfl

theorem LD.drew {w : World} {n x3 F N : Nat} {fr : Nat → List Nat} {vs : List Value} {W : World} (h : LD w n x3 F N fr vs W) : LD w n x3 F N fr vs W.drew := ⟨h.b3, h.f, h.len, h.rows, h.ap, Below.drew h.b, h.sz⟩
theorem KpF.undrew {A B F i : Nat} {W W' : World} (h : KpF A B F i W.drew W') : KpF A B F i W W' := ⟨h.size, h.made, h.high, h.grow⟩
theorem KeepsOthers.undrew {W W' : World} (h : KeepsOthers W.drew W') : KeepsOthers W W' := ⟨h.size, h.same⟩
def mkR (n : Nat) : Array Value := madeCells #[.slice none 0 0] n
theorem Tryd.infoR : (Tryd.prog.info? 34).map (fun i => (i.zero, i.size, i.bytes)) = some (some (.slice none 0 0), 1, 24) := by kernel_rfl
theorem run_mkR (W : World) (n : Nat) (hn : n ≤ 1000000) : (Instr.makeSlice 60 (.int .i64 (n : Int)) (.int .i64 (n : Int))).run Tryd.prog W = .ok (.slice (some ⟨W.heap.size, 0, none⟩) n n) (W.alloc (.cells (mkR n) 34)) := by
  obtain ⟨i0, hi, hz0, hz1, hz2⟩ := info_parts Tryd.infoR
  have := run_make (P := Tryd.prog) W 60 34 i0 (.slice none 0 0) Tryd.underlying60 hi hz0 .i64 .i64 n n (by omega) (Int.le_refl _) (by rw [hz2]; omega) (by omega)
  rw [hz1, Int.toNat_natCast, Nat.mul_one] at this
  exact this
theorem mkR_eq (n : Nat) : mkR n = (List.replicate n (.slice none 0 0)).toArray := by
  have : (mkR n).toList = List.replicate n (.slice none 0 0) := toList_madeCells_one _ _
  rw [← this]
theorem LD.start {w W : World} {n x3 F N : Nat} (b3 : Boxed W x3 60 (.slice (some ⟨F, 0, none⟩) n n)) (f : W.heap[F]? = some (.cells (mkR n) 34 (0, 0))) (b : Below w.heap.size w W) (sz : N ≤ W.heap.size) : LD w n x3 F N (frE []) (List.replicate n (.slice none 0 0)) W := by
  have hr : ∀ j, j < n → (List.replicate n (Value.slice none 0 0)).getD j undef = .slice none 0 0 := fun j hj => by rw [List.getD_eq_getElem?_getD, List.getElem?_replicate, if_pos hj]; rfl
  refine ⟨b3, by rw [← mkR_eq]; exact f, by simp, fun j hj => ?_, fun i j hi hj _ => ?_, b, sz⟩
  · rw [hr j hj, frE_nil]; exact on_nil _ _
  · rw [hr i hi]; exact .inl rfl
theorem LD.dok {w : World} {n x3 F N : Nat} {fr : Nat → List Nat} {vs : List Value} {W : World} (h : LD w n x3 F N fr vs W) : DOk F W := fun k hd => by
  obtain ⟨cs, T, fz, h1, q, hq, e⟩ := hd
  rw [h.f] at h1
  injection h1 with h1
  injection h1 with h1
  subst h1
  rw [List.toList_toArray] at hq
  obtain ⟨j, hj, rfl⟩ := List.getElem_of_mem hq
  have := h.rows j (by rw [← h.len]; exact hj)
  rw [List.getD_eq_getElem?_getD, List.getElem?_eq_getElem hj] at this
  exact (this.lt k e).2
end Go.Proofs.YtlnjhnbiljkbmaaDoor
