/- Calls of a function; who leads to whom; the order, and a ring where there is none: plain. The function that callsOf hands back: all calls of a function, in their order. A number is added to a set, whether it is there already or not; callsOf. calledBy: the set of all that a function calls. calls.Of. -/
import Derived.Test.YtdnilonfgbinaaaNb
import Derived.Test.YtdnilonfgbinaaaNk
import Derived.Test.YtdnilonfgbinaaaTd
import Derived.Test.YtdnilonfgbinaaaNj
import Derived.Test.YtdnilonfgbinaaaTe
namespace Go.Proofs.Ytdnilonfgbinaaa

/-- The call that an instruction is, if it can be reached, among so many functions. -/
def clB (l : List Is) (rs : List Bool) (nf u : Nat) : List (Nat × Nat) :=
  match l[u]? with
  | some x => if rs[u]? = some true ∧ x.op = 19 ∧ 0 ≤ x.n ∧ x.n < (nf : Int) then [(u, x.n.toNat)] else []
  | none => []
def clU (l : List Is) (rs : List Bool) (nf u : Nat) : List (Nat × Nat) := (List.range u).flatMap (clB l rs nf)
def cls (l : List Is) (rs : List Bool) (nf : Nat) : List (Nat × Nat) := clU l rs nf rs.length
theorem clU_succ (l : List Is) (rs : List Bool) (nf u : Nat) : clU l rs nf (u + 1) = clU l rs nf u ++ clB l rs nf u := by
  unfold clU; rw [List.range_succ, List.flatMap_append]; simp
theorem clB_yes {l : List Is} {rs : List Bool} {nf u : Nat} {x : Is} (hx : l[u]? = some x) (hr : rs[u]? = some true) (h1 : x.op = 19) (h2 : 0 ≤ x.n) (h3 : x.n < (nf : Int)) : clB l rs nf u = [(u, x.n.toNat)] := by
  unfold clB; rw [hx]; simp only; rw [if_pos ⟨hr, h1, h2, h3⟩]
theorem clB_no {l : List Is} {rs : List Bool} {nf u : Nat} {x : Is} (hx : l[u]? = some x) (h : rs[u]? = some false ∨ x.op ≠ 19 ∨ x.n < 0 ∨ (nf : Int) ≤ x.n) : clB l rs nf u = [] := by
  unfold clB; rw [hx]; simp only; rw [if_neg]
  rintro ⟨h1, h2, h3, h4⟩
  rcases h with h | h | h | h
  · rw [h1] at h; cases h
  · exact h h2
  · omega
  · omega
theorem clU_pre (l : List Is) (rs : List Bool) (nf : Nat) {u n : Nat} (h : u ≤ n) : clU l rs nf u <+: clU l rs nf n := by
  induction n with
  | zero => obtain rfl : u = 0 := by omega
            exact List.prefix_refl _
  | succ n ih =>
    rcases Nat.lt_or_ge u (n + 1) with hlt | hge
    · rw [clU_succ]
      exact (ih (by omega)).trans (List.prefix_append _ _)
    · obtain rfl : u = n + 1 := by omega
      exact List.prefix_refl _
theorem mem_clB {l : List Is} {rs : List Bool} {nf u a v : Nat} : (a, v) ∈ clB l rs nf u ↔ a = u ∧ rs[u]? = some true ∧ v < nf ∧ ∃ x, l[u]? = some x ∧ x.op = 19 ∧ x.n = (v : Int) := by
  unfold clB
  cases hx : l[u]? with
  | none => simp
  | some x =>
    simp only
    constructor
    · intro h
      split at h
      · rename_i hc
        rw [List.mem_singleton] at h
        injection h with e1 e2
        refine ⟨e1, hc.1, by omega, x, rfl, hc.2.1, by omega⟩
      · cases h
    · rintro ⟨rfl, h1, h2, y, e, h3, h4⟩
      injection e with e
      subst e
      rw [if_pos ⟨h1, h3, by omega, by omega⟩, h4]
      simp
theorem mem_cls {l : List Is} {rs : List Bool} {nf u v : Nat} : (u, v) ∈ cls l rs nf ↔ rs[u]? = some true ∧ v < nf ∧ ∃ x, l[u]? = some x ∧ x.op = 19 ∧ x.n = (v : Int) := by
  unfold cls clU
  rw [List.mem_flatMap]
  constructor
  · rintro ⟨k, hk, h⟩
    obtain ⟨rfl, h⟩ := mem_clB.1 h
    exact h
  · intro h
    exact ⟨u, List.mem_range.2 (List.getElem?_eq_some_iff.1 h.1).1, mem_clB.2 ⟨rfl, h⟩⟩
theorem clU_rise (l : List Is) (rs : List Bool) (nf u : Nat) : (clU l rs nf u).Pairwise (fun a b => a.1 < b.1) ∧ ∀ p ∈ clU l rs nf u, p.1 < u := by
  induction u with
  | zero => exact ⟨List.Pairwise.nil, fun p h => by cases h⟩
  | succ u ih =>
    rw [clU_succ]
    have hb : ∀ p ∈ clB l rs nf u, p.1 = u := fun p hp => (mem_clB.1 (show (p.1, p.2) ∈ _ from hp)).1
    refine ⟨List.pairwise_append.2 ⟨ih.1, ?_, fun a ha b h => by rw [hb b h]; exact ih.2 a ha⟩, fun p h => ?_⟩
    · unfold clB
      split
      · split
        · exact List.pairwise_singleton _ _
        · exact List.Pairwise.nil
      · exact List.Pairwise.nil
    · rcases List.mem_append.1 h with h | h
      · have := ih.2 p h; omega
      · have := hb p h; omega
/-- A number that is in a list of calls is a function's. -/
theorem cls_lt {l : List Is} {rs : List Bool} {nf : Nat} {p : Nat × Nat} (h : p ∈ cls l rs nf) : p.2 < nf ∧ p.1 < rs.length :=
  ⟨(mem_cls.1 (show (p.1, p.2) ∈ _ from h)).2.1, (List.getElem?_eq_some_iff.1 (mem_cls.1 (show (p.1, p.2) ∈ _ from h)).1).1⟩

/-- A rising list says what is in another one. -/
def IsU (s l : List Nat) : Prop := s.Pairwise (· < ·) ∧ ∀ x, x ∈ s ↔ x ∈ l
theorem rise_ext : ∀ {a b : List Nat}, a.Pairwise (· < ·) → b.Pairwise (· < ·) → (∀ x, x ∈ a ↔ x ∈ b) → a = b
  | [], [], _, _, _ => rfl
  | [], y :: b, _, _, h => by have := (h y).2 (by simp); cases this
  | x :: a, [], _, _, h => by have := (h x).1 (by simp); cases this
  | x :: a, y :: b, ha, hb, h => by
    rw [List.pairwise_cons] at ha hb
    have e : x = y := by
      have h1 := (h x).1 (by simp)
      have h2 := (h y).2 (by simp)
      rw [List.mem_cons] at h1 h2
      rcases h1 with h1 | h1
      · exact h1
      · rcases h2 with h2 | h2
        · exact h2.symm
        · have := ha.1 y h2; have := hb.1 x h1; omega
    subst e
    rw [rise_ext ha.2 hb.2 fun z => ?_]
    have hz := h z
    rw [List.mem_cons, List.mem_cons] at hz
    constructor
    · intro hm
      rcases hz.1 (.inr hm) with e | h1
      · have := ha.1 z hm; omega
      · exact h1
    · intro hm
      rcases hz.2 (.inr hm) with e | h1
      · have := hb.1 z hm; omega
      · exact h1
theorem IsU.one {a b l : List Nat} (h : IsU a l) (k : IsU b l) : a = b := rise_ext h.1 k.1 fun x => (h.2 x).trans (k.2 x).symm

/-- By one step or more. -/
inductive Ld (E : Nat → Nat → Prop) : Nat → Nat → Prop
  | one {f g : Nat} : E f g → Ld E f g
  | on {f g h : Nat} : E f g → Ld E g h → Ld E f h
theorem Ld.trans {E : Nat → Nat → Prop} {f g h : Nat} (a : Ld E f g) (b : Ld E g h) : Ld E f h := by
  induction a with
  | one e => exact .on e b
  | on e _ ih => exact .on e (ih b)
theorem Ld.lt {E : Nat → Nat → Prop} {n f g : Nat} (hE : ∀ f g, E f g → g < n) (a : Ld E f g) : g < n := by
  induction a with
  | one e => exact hE _ _ e
  | on _ _ ih => exact ih
theorem Ld.first {E : Nat → Nat → Prop} {f h : Nat} (a : Ld E f h) : ∃ g, E f g ∧ (g = h ∨ Ld E g h) := by
  cases a with
  | one e => exact ⟨_, e, .inl rfl⟩
  | on e k => exact ⟨_, e, .inr k⟩
theorem Ld.last {E : Nat → Nat → Prop} {f h : Nat} (a : Ld E f h) : ∃ g, (f = g ∨ Ld E f g) ∧ E g h := by
  induction a with
  | one e => exact ⟨_, .inl rfl, e⟩
  | on e _ ih =>
    obtain ⟨g, hg, k⟩ := ih
    rcases hg with rfl | hg
    · exact ⟨_, .inr (.one e), k⟩
    · exact ⟨_, .inr (.on e hg), k⟩
theorem Ld.mono {E F : Nat → Nat → Prop} (h : ∀ a b, E a b → F a b) {f g : Nat} (a : Ld E f g) : Ld F f g := by
  induction a with
  | one e => exact .one (h _ _ e)
  | on e _ ih => exact .on (h _ _ e) ih

/-- All that it calls is there, and it isn't. -/
def Rdy (E : Nat → Nat → Prop) (d : List Nat) (f : Nat) : Prop := f ∉ d ∧ ∀ g, E f g → g ∈ d
def LstR (E : Nat → Nat → Prop) (n : Nat) (d : List Nat) (f : Nat) : Prop := f < n ∧ Rdy E d f ∧ ∀ g, g < n → Rdy E d g → f ≤ g
theorem LstR.one {E : Nat → Nat → Prop} {n : Nat} {d : List Nat} {f g : Nat} (h : LstR E n d f) (k : LstR E n d g) : f = g := Nat.le_antisymm (h.2.2 g k.1 k.2.1) (k.2.2 f h.1 h.2.1)
/-- Each in its turn is the least one that may be next. -/
def Ord (E : Nat → Nat → Prop) (n : Nat) (os : List Nat) : Prop := ∀ i f, os[i]? = some f → LstR E n (os.take i) f
theorem Ord.nil (E : Nat → Nat → Prop) (n : Nat) : Ord E n [] := fun i f h => by simp at h
theorem Ord.snoc {E : Nat → Nat → Prop} {n : Nat} {os : List Nat} {f : Nat} (h : Ord E n os) (hf : LstR E n os f) : Ord E n (os ++ [f]) := by
  intro i g hg
  rcases Nat.lt_trichotomy i os.length with hi | hi | hi
  · rw [List.getElem?_append_left hi] at hg
    rw [List.take_append_of_le_length (by omega)]
    exact h i g hg
  · subst hi
    rw [List.getElem?_append_right (by omega), Nat.sub_self] at hg
    injection hg with hg
    subst hg
    rw [List.take_left']
    · exact hf
    · rfl
  · rw [List.getElem?_eq_none (by rw [List.length_append]; simp; omega)] at hg
    cases hg
theorem Ord.lt {E : Nat → Nat → Prop} {n : Nat} {os : List Nat} (h : Ord E n os) {f : Nat} (hf : f ∈ os) : f < n := by
  obtain ⟨i, hi, e⟩ := List.mem_iff_getElem.1 hf
  exact (h i f (by rw [List.getElem?_eq_getElem hi, e])).1
theorem mem_take {os : List Nat} {i f : Nat} (h : f ∈ os.take i) : ∃ j, j < i ∧ os[j]? = some f := by
  obtain ⟨j, hj, e⟩ := List.mem_iff_getElem.1 h
  rw [List.length_take] at hj
  refine ⟨j, by omega, ?_⟩
  rw [List.getElem_take] at e
  rw [List.getElem?_eq_getElem (by omega), e]
theorem take_mem {os : List Nat} {i j f : Nat} (hj : j < i) (h : os[j]? = some f) : f ∈ os.take i := by
  obtain ⟨hl, e⟩ := List.getElem?_eq_some_iff.1 h
  refine List.mem_iff_getElem.2 ⟨j, by rw [List.length_take]; omega, ?_⟩
  rw [List.getElem_take, e]
theorem Ord.inj {E : Nat → Nat → Prop} {n : Nat} {os : List Nat} (h : Ord E n os) {i j f : Nat} (hi : os[i]? = some f) (hj : os[j]? = some f) : i = j := by
  rcases Nat.lt_trichotomy i j with hl | hl | hl
  · exact absurd (take_mem hl hi) (h j f hj).2.1.1
  · exact hl
  · exact absurd (take_mem hl hj) (h i f hi).2.1.1
theorem Ord.nodup {E : Nat → Nat → Prop} {n : Nat} {os : List Nat} (h : Ord E n os) : os.Nodup := by
  rw [List.Nodup, List.pairwise_iff_getElem]
  intro i j hi hj hij e
  have := h.inj (i := i) (j := j) (f := os[i]) (List.getElem?_eq_getElem hi) (by rw [List.getElem?_eq_getElem hj, e])
  omega
/-- All to which one leads stand ahead of it. -/
theorem Ord.ahead {E : Nat → Nat → Prop} {n : Nat} {os : List Nat} (h : Ord E n os) {f g : Nat} (k : Ld E f g) : ∀ {i : Nat}, os[i]? = some f → ∃ j, j < i ∧ os[j]? = some g := by
  induction k with
  | one e => exact fun hi => mem_take ((h _ _ hi).2.1.2 _ e)
  | on e _ ih =>
    intro i hi
    obtain ⟨j, hj, e1⟩ := mem_take ((h _ _ hi).2.1.2 _ e)
    obtain ⟨k, hk, e2⟩ := ih e1
    exact ⟨k, by omega, e2⟩
theorem Ord.no_ring {E : Nat → Nat → Prop} {n : Nat} {os : List Nat} (h : Ord E n os) {f : Nat} (hf : f ∈ os) : ¬ Ld E f f := by
  intro k
  obtain ⟨i, hi, e⟩ := List.mem_iff_getElem.1 hf
  have hi' : os[i]? = some f := by rw [List.getElem?_eq_getElem hi, e]
  obtain ⟨j, hj, e2⟩ := h.ahead k hi'
  have := h.inj e2 hi'
  omega
theorem Ord.one {E : Nat → Nat → Prop} {n : Nat} {a b : List Nat} (ha : Ord E n a) (hb : Ord E n b) (hl : a.length = b.length) : a = b := by
  have key : ∀ i, i ≤ a.length → a.take i = b.take i := by
    intro i
    induction i with
    | zero => intro _; rfl
    | succ i ih =>
      intro hi
      have e := ih (by omega)
      have h1 := ha i a[i] (List.getElem?_eq_getElem (by omega))
      have h2 := hb i b[i] (List.getElem?_eq_getElem (by omega))
      rw [e] at h1
      rw [List.take_succ_eq_append_getElem (by omega), List.take_succ_eq_append_getElem (by omega), e, h1.one h2]
  have := key a.length (Nat.le_refl _)
  rwa [List.take_length, hl, List.take_length] at this
theorem subU_len {a b : List Nat} (ha : a.Nodup) (h : ∀ x ∈ a, x ∈ b) : a.length ≤ b.length := by
  induction a generalizing b with
  | nil => simp
  | cons x a ih =>
    obtain ⟨h1, h2⟩ := List.nodup_cons.1 ha
    have hx := h x (by simp)
    have := ih (b := b.erase x) h2 fun y hy => (List.mem_erase_of_ne (by rintro rfl; exact h1 hy)).2 (h y (by simp [hy]))
    rw [List.length_erase_of_mem hx] at this
    have := List.length_pos_of_mem hx
    simp only [List.length_cons]
    omega
theorem nd_len {n : Nat} {l : List Nat} (hn : l.Nodup) (h : ∀ x ∈ l, x < n) : l.length ≤ n := by
  have := subU_len hn (b := List.range n) fun x hx => List.mem_range.2 (h x hx)
  rwa [List.length_range] at this
theorem nd_all {n : Nat} {l : List Nat} (hn : l.Nodup) (h : ∀ x ∈ l, x < n) (hl : l.length = n) {x : Nat} (hx : x < n) : x ∈ l := by
  refine Classical.byContradiction fun hc => ?_
  have := nd_len (n := n) (l := x :: l) (List.nodup_cons.2 ⟨hc, hn⟩) fun y hy => by
    rcases List.mem_cons.1 hy with rfl | hy
    · exact hx
    · exact h y hy
  rw [List.length_cons] at this
  omega
theorem nd_some {n : Nat} {l : List Nat} (hl : l.length < n) : ∃ x, x < n ∧ x ∉ l := by
  refine Classical.byContradiction fun hc => ?_
  have := subU_len (a := List.range n) (b := l) List.nodup_range fun x hx => Classical.byContradiction fun hn => hc ⟨x, List.mem_range.1 hx, hn⟩
  rw [List.length_range] at this
  omega
/-- The whole order holds all functions. -/
theorem Ord.all {E : Nat → Nat → Prop} {n : Nat} {os : List Nat} (h : Ord E n os) (hl : os.length = n) {f : Nat} (hf : f < n) : f ∈ os := nd_all h.nodup (fun _ hx => h.lt hx) hl hf
theorem Ord.len {E : Nat → Nat → Prop} {n : Nat} {os : List Nat} (h : Ord E n os) : os.length ≤ n := nd_len h.nodup fun _ hx => h.lt hx

/-- Where none may be next and one isn't there, there is a ring among those that aren't. -/
theorem stuck_ring {E : Nat → Nat → Prop} {n : Nat} {d : List Nat} (hE : ∀ f g, E f g → g < n) (hs : ∀ f, f < n → ¬ Rdy E d f) {f : Nat} (hf : f < n) (hd : f ∉ d) : ∃ g, g < n ∧ g ∉ d ∧ Ld E g g := by
  classical
  refine Classical.byContradiction fun hno => ?_
  have hring : ∀ g, g < n → g ∉ d → ¬ Ld E g g := fun g h1 h2 h3 => hno ⟨g, h1, h2, h3⟩
  have key : ∀ (k f : Nat), f < n → f ∉ d → ((List.range n).filter fun x => decide (Ld E f x)).length ≤ k → False := by
    intro k
    induction k with
    | zero =>
      intro f hf hd hk
      have hr := hs f hf
      have : ∃ g, E f g ∧ g ∉ d := Classical.byContradiction fun hc => hr ⟨hd, fun g hg => Classical.byContradiction fun hn => hc ⟨g, hg, hn⟩⟩
      obtain ⟨g, hg, hgd⟩ := this
      have hm : g ∈ (List.range n).filter fun x => decide (Ld E f x) := List.mem_filter.2 ⟨List.mem_range.2 (hE _ _ hg), decide_eq_true (Ld.one hg)⟩
      have := List.length_pos_of_mem hm
      omega
    | succ k ih =>
      intro f hf hd hk
      have hr := hs f hf
      have : ∃ g, E f g ∧ g ∉ d := Classical.byContradiction fun hc => hr ⟨hd, fun g hg => Classical.byContradiction fun hn => hc ⟨g, hg, hn⟩⟩
      obtain ⟨g, hg, hgd⟩ := this
      have hgn := hE _ _ hg
      refine ih g hgn hgd ?_
      have hsub : (g :: (List.range n).filter fun x => decide (Ld E g x)).length ≤ ((List.range n).filter fun x => decide (Ld E f x)).length := by
        have nd : (g :: (List.range n).filter fun x => decide (Ld E g x)).Nodup := List.nodup_cons.2 ⟨fun hm => hring g hgn hgd (of_decide_eq_true (List.mem_filter.1 hm).2), List.nodup_range.filter _⟩
        refine subU_len nd fun x hx => ?_
        rcases List.mem_cons.1 hx with rfl | hx
        · exact List.mem_filter.2 ⟨List.mem_range.2 hgn, decide_eq_true (Ld.one hg)⟩
        · obtain ⟨h1, h2⟩ := List.mem_filter.1 hx
          exact List.mem_filter.2 ⟨h1, decide_eq_true (Ld.on hg (of_decide_eq_true h2))⟩
      rw [List.length_cons] at hsub
      omega
  exact key _ f hf hd (Nat.le_refl _)
/-- So the order is whole, or there is a ring; never both. -/
theorem ord_ring {E : Nat → Nat → Prop} {n : Nat} {os : List Nat} (hE : ∀ f g, E f g → g < n) (hs : ∀ f, f < n → ¬ Rdy E os f) (hl : os.length < n) : ∃ g, g < n ∧ g ∉ os ∧ Ld E g g := by
  obtain ⟨f, hf, hd⟩ := nd_some hl
  exact stuck_ring hE hs hf hd
end Go.Proofs.Ytdnilonfgbinaaa
namespace Go.Proofs.Ytdnilonfgbinaaa
open Go.RowKit Go.Shelf
attribute [local go_sem] Oper.semAt_some

/-- All blocks of a world lie in another one. -/
def AllIn (w W : World) : Prop := ∀ (k : Nat) (o : Obj), w.heap[k]? = some o → W.heap[k]? = some o
theorem AllIn.cell {w W : World} (h : AllIn w W) {p : Addr} {v : Value} (hc : w.cell? p = some v) : W.cell? p = some v := by
  have hl := lt_of_cell hc
  have h1 : w.heap[p.block]? = some w.heap[p.block] := Array.getElem?_eq_getElem hl
  have h2 := h _ _ h1
  unfold World.cell? at hc ⊢
  rw [h1] at hc
  rw [h2]
  exact hc
theorem RowIn.all {w W : World} (h : AllIn w W) {a : Option Addr} {sz : Nat} {rows : List (List Value)} (k : RowIn w a sz rows) : RowIn W a sz rows := by
  intro i cs hi
  obtain ⟨b, o, e, hc⟩ := k i cs hi
  exact ⟨b, o, e, fun j v hj => h.cell (hc j v hj)⟩
theorem Iss.all {w W : World} (h : AllIn w W) {a : Option Addr} {l : List Is} (k : Iss w a l) : Iss W a l := ⟨k.1, k.2.all h⟩
theorem Fns.all {w W : World} (h : AllIn w W) {a : Option Addr} {l : List Fn} (k : Fns w a l) : Fns W a l := ⟨k.1, k.2.all h⟩
theorem AllIn.below {w W W' : World} (h : AllIn w W) (hb : Below W.heap.size W W') : AllIn w W' := fun k o hk => blk_stay (h k o hk) hb

/-- What a round keeps: the module's world, the blocks that the iterator was made with, and all from i on. -/
def KpC (N A B i : Nat) (W W' : World) : Prop := KpE A B i W W' ∧ KpE 0 N i W W'
theorem AllIn.kp {N A B i : Nat} {w W W' : World} (h : AllIn w W) (hN : w.heap.size ≤ N) (hk : KpC N A B i W W') : AllIn w W' := fun k o e => hk.2.2 k o (.inl ⟨Nat.zero_le _, Nat.lt_of_lt_of_le (Array.getElem?_eq_some_iff.1 e).1 hN⟩) (h k o e)
theorem kpC_below {N A B i : Nat} {W W' : World} (h : Below W.heap.size W W') : KpC N A B i W W' := ⟨kpE_below h, kpE_below h⟩
/-- What lies where an iterator of calls was made. -/
structure CaAt (N A B B1 B2 : Nat) (w : World) (m : Mo) (fn : Nat) (W : World) : Prop where
  h1 : A ≤ B1 ∧ B1 < B
  h2 : A ≤ B2 ∧ B2 < B
  b1 : W.heap[B1]? = some (.cells #[.slice m.ta m.ths.length m.tc, .slice m.fa m.funcs.length m.fc] 25)
  b2 : W.heap[B2]? = some (.cells #[.int .i64 (fn : Int)] 3)
  hN : w.heap.size ≤ N
  m : m.In w
  a : AllIn w W
theorem CaAt.kp {N A B B1 B2 i : Nat} {w : World} {m : Mo} {fn : Nat} {W W' : World} (h : CaAt N A B B1 B2 w m fn W) (hk : KpC N A B i W W') : CaAt N A B B1 B2 w m fn W' :=
  ⟨h.h1, h.h2, hk.1.2 _ _ (.inl h.h1) h.b1, hk.1.2 _ _ (.inl h.h2) h.b2, h.hN, h.m, h.a.kp h.hN hk⟩

/-- What lies where a round begins. -/
structure RoC (N A B B1 B2 : Nat) (w : World) (m : Mo) (fn : Nat) (f : Fn) (rs : List Bool) (ra : Option Addr) (rc S : Nat) (W : World) : Prop where
  c : CaAt N A B B1 B2 w m fn W
  f : W.heap[S]? = some (.cells #[.string f.name, .slice f.pa f.params.length f.pc, .int .i64 f.regs, .int .i64 f.words, .slice f.ca f.code.length f.cc] 42)
  r : Ob S rs (.slice ra rs.length rc) W
theorem RoC.kp {N A B B1 B2 : Nat} {w : World} {m : Mo} {fn : Nat} {f : Fn} {rs : List Bool} {ra : Option Addr} {rc S : Nat} {W W' : World} (h : RoC N A B B1 B2 w m fn f rs ra rc S W) (hk : KpC N A B S W W') : RoC N A B B1 B2 w m fn f rs ra rc S W' :=
  ⟨h.c.kp hk, hk.1.2 _ _ (.inr (Nat.le_refl _)) h.f, own_high h.r (Nat.le_refl _) hk.1⟩
theorem RoC.lt {N A B B1 B2 : Nat} {w : World} {m : Mo} {fn : Nat} {f : Fn} {rs : List Bool} {ra : Option Addr} {rc S : Nat} {W : World} (h : RoC N A B B1 B2 w m fn f rs ra rc S W) : S ≤ W.heap.size := Nat.le_of_lt (Array.getElem?_eq_some_iff.1 h.f).1
theorem clU_yes {l : List Is} {rs : List Bool} {nf u : Nat} {x : Is} (hx : l[u]? = some x) (hr : rs[u]? = some true) (h1 : x.op = 19) {k : Nat} (h2 : x.n = (k : Int)) (h3 : k < nf) : clU l rs nf u ++ [(u, k)] = clU l rs nf (u + 1) ∧ clU l rs nf u ++ [(u, k)] <+: cls l rs nf := by
  have e : clU l rs nf u ++ [(u, k)] = clU l rs nf (u + 1) := by
    rw [clU_succ, clB_yes hx hr h1 (by omega) (by omega), h2, Int.toNat_natCast]
  exact ⟨e, by rw [e]; exact clU_pre l rs nf (Nat.succ_le_of_lt (List.getElem?_eq_some_iff.1 hr).1)⟩
theorem clU_no {l : List Is} {rs : List Bool} {nf u : Nat} {x : Is} (hx : l[u]? = some x) (h : rs[u]? = some false ∨ x.op ≠ 19 ∨ x.n < 0 ∨ (nf : Int) ≤ x.n) : clU l rs nf (u + 1) = clU l rs nf u := by
  rw [clU_succ, clB_no hx h, List.append_nil]

set_option maxRecDepth 100000 in
set_option maxHeartbeats 4000000 in
theorem callsOf1_o (lq N A B B1 B2 : Nat) (w : World) (m : Mo) (fn : Nat) (f : Fn) (rs : List Bool) (hf : m.funcs[fn]? = some f) (hrs : IsR f.code rs) (J Jx : List (Nat × Nat) → World → Prop) (W : World) (hJ : OwnFrom W.heap.size J)
    (hY : ∀ pre x W1, J pre W1 → (pre ++ [x]) <+: cls f.code rs m.funcs.length → YieldAt Fence.wide 0 Try.prog lq (encE x) W1 fun e W' =>
      KpC N A B W.heap.size W1 W' ∧ ((e = .returned (.bool true) ∧ J (pre ++ [x]) W') ∨ (e = .returned (.bool false) ∧ Jx (pre ++ [x]) W')))
    (hC : CaAt N A B B1 B2 w m fn W) (h0 : J [] W) :
    CallsIn Fence.wide 1 Try.prog 32 #[.func (.yield lq) #[] #[], .pointer (some ⟨B1, 0, none⟩), .pointer (some ⟨B2, 0, none⟩)] W fun e W' => (∃ v, e = .returned v) ∧
      (J (cls f.code rs m.funcs.length) W' ∨ ∃ pre, pre <+: cls f.code rs m.funcs.length ∧ Jx pre W') := by
  have HJ := Hid.mk' hJ
  have HY := Hid.mk' hY
  have HC := Hid.mk' hC
  have H0 := Hid.mk' h0
  have HRS := Hid.mk' hrs
  have HN : Hid (∀ w', AllIn w w' → Calls Try.prog 33 #[.agg #[.string f.name, .slice f.pa f.params.length f.pc, .int .i64 f.regs, .int .i64 f.words, .slice f.ca f.code.length f.cc]] w' (ReP f.code w')) := fun w' hb => reach_any f w' ((hC.m.2.2.2 f (List.mem_of_getElem? hf)).2.2.2.2.2.1.all hb)
  obtain ⟨hfl, hfe⟩ := List.getElem?_eq_some_iff.1 hf
  have HFI : Hid (f.In w) := hC.m.2.2.2 f (List.mem_of_getElem? hf)
  have c0 := cell_of_obj hC.b1 (j := 1) (v := .slice m.fa m.funcs.length m.fc) rfl
  have c1 := cell_of_obj hC.b2 (j := 0) (v := .int .i64 (fn : Int)) rfl
  have hml := hC.m.2.2.1.1
  have hfli : (fn : Int) < (m.funcs.length : Int) := by omega
  obtain ⟨b, o, efa, d0, d1, d2, d3, d4⟩ := fns_at (hC.m.2.2.1.all hC.a) hfl
  rw [hfe] at d0 d1 d2 d3 d4
  obtain ⟨mta, mtc, mths, mfa, mfc, mfs⟩ := m
  simp only at *
  subst efa
  clear hJ hY hC h0 hrs hf hfe
  refine callsIn_of_wp Try.func32 rfl trivial ?_ rfl
  simp only [Try.ntmps32, List.size_toArray, List.length_cons, List.length_nil, Nat.reduceAdd, Nat.reduceSub, Array.replicate_succ, Array.replicate_zero, List.push_toArray, List.append_toArray, List.nil_append, List.cons_append]
  gi_wp2_with fail
  refine ⟨trivial, ?_⟩
  refine (callsIn_wide.2 (HN.out _ (HC.out.a.below (Below.one (Below.refl _ W) _)))).mono ?_
  rintro e W2 ⟨v2, rs2, rfl, hrs2, on2, bb2⟩
  obtain rfl := HRS.out.one hrs2
  obtain ⟨ra, rc, rfl⟩ := gown_form on2
  have HB2 := Hid.mk' (Below.on (Below.one (Below.refl _ W) _) bb2)
  have HR0 : Hid (RoC N A B B1 B2 w ⟨mta, mtc, mths, some ⟨b, o, none⟩, mfc, mfs⟩ fn f rs ra rc W.heap.size W2) := ⟨HC.out.kp (kpC_below (i := 0) HB2.out), blk_stay (heap_alloc_new W _) bb2, own_mono on2 (by simp)⟩
  have HJ0 := Hid.mk' (HJ.out _ _ _ none H0.out (below_grown HB2.out) (fun r e => by cases e))
  clear hrs2 on2 bb2 HN c0 c1 d0 d1 d2 d3 d4 HC H0
  gi_wp2_with fail
  gi_loopw [16] (fun t wr => ∃ (u : Nat), t = .int .i64 u ∧ u ≤ rs.length ∧ RoC N A B B1 B2 w ⟨mta, mtc, mths, some ⟨b, o, none⟩, mfc, mfs⟩ fn f rs ra rc W.heap.size wr ∧ J (clU f.code rs mfs.length u) wr) (fun t _ => rs.length - (intOf t).toNat)
  case atStart => exact ⟨0, rfl, Nat.zero_le _, HR0.out, HJ0.out⟩
  case round =>
    obtain ⟨u, rfl, hu, hro, hJs⟩ := hrel
    clear HR0 HJ0
    have HRO := Hid.mk' hro
    have HJS := Hid.mk' hJs
    clear hro hJs
    by_cases hlt : u < rs.length
    · obtain ⟨bu, hbu⟩ : ∃ b, rs[u]? = some b := ⟨_, List.getElem?_eq_getElem hlt⟩
      obtain ⟨gr, rfl, e0, k1, k2⟩ := ob_at HRO.out.r hbu
      clear k1 k2
      have hlti : (u : Int) < (rs.length : Int) := by omega
      have hlc : u < f.code.length := Nat.lt_of_lt_of_le hlt HRS.out.le
      have hlci : (u : Int) < (f.code.length : Int) := by omega
      have hcl := HFI.out.2.2.2.2.2.1.1
      have HBU := Hid.mk' hbu
      clear hbu
      obtain ⟨x, hx⟩ : ∃ x, f.code[u]? = some x := ⟨_, List.getElem?_eq_getElem hlc⟩
      have hxe := (List.getElem?_eq_some_iff.1 hx).2
      obtain ⟨bc, oc, eca, g0, g1, g2, g3, g4⟩ := iss_at (HFI.out.2.2.2.2.2.1.all HRO.out.c.a) hlc
      rw [hxe] at g0 g1 g2 g3 g4
      have z4 := cell_of_obj HRO.out.f (j := 4) (v := .slice f.ca f.code.length f.cc) rfl
      have z0 := cell_of_obj HRO.out.c.b1 (j := 1) (v := .slice (some ⟨b, o, none⟩) mfs.length mfc) rfl
      rw [eca] at z4
      clear eca
      have z1 := cell_kept_below z0 (Below.one (Below.refl _ wr) (.cells #[.int .i64 x.op, .int .i64 x.a, .int .i64 x.b, .int .i64 x.c, .int .i64 x.n] 44))
      have HR1 := Hid.mk' (HRO.out.kp (kpC_below (Below.one (Below.refl _ wr) (.cells #[.int .i64 x.op, .int .i64 x.a, .int .i64 x.b, .int .i64 x.c, .int .i64 x.n] 44))))
      have HJ1 := Hid.mk' (HJ.out _ _ _ none HJS.out (below_grown (Below.one (Below.refl _ wr) (.cells #[.int .i64 x.op, .int .i64 x.a, .int .i64 x.b, .int .i64 x.c, .int .i64 x.n] 44)) ) (fun r e => by cases e))
      have HX := Hid.mk' hx
      clear hx hxe
      obtain ⟨xo, xa, xb, xc, xn⟩ := x
      simp only at *
      cases bu
      · have HE := Hid.mk' (clU_no (nf := mfs.length) HX.out (.inl HBU.out))
        gi_wp2_with fail
        go_roundw
        case rel => exact ⟨u + 1, by go_num, by omega, HR1.out, by rw [HE.out]; exact HJ1.out⟩
        case measure => simp [intOf]; omega
      by_cases h19 : xo = 19
      rotate_left
      · have HE := Hid.mk' (clU_no (rs := rs) (nf := mfs.length) HX.out (.inr (.inl h19)))
        have q1 : (xo != 19) = true := bne_of h19
        gi_wp2_with fail
        go_roundw
        case rel => exact ⟨u + 1, by go_num, by omega, HR1.out, by rw [HE.out]; exact HJ1.out⟩
        case measure => simp [intOf]; omega
      subst h19
      by_cases hn0 : xn < 0
      · have HE := Hid.mk' (clU_no (rs := rs) (nf := mfs.length) HX.out (.inr (.inr (.inl hn0))))
        gi_wp2_with fail
        go_roundw
        case rel => exact ⟨u + 1, by go_num, by omega, HR1.out, by rw [HE.out]; exact HJ1.out⟩
        case measure => simp [intOf]; omega
      by_cases hn1 : (mfs.length : Int) ≤ xn
      · have HE := Hid.mk' (clU_no (rs := rs) (nf := mfs.length) HX.out (.inr (.inr (.inr hn1))))
        gi_wp2_with fail
        go_roundw
        case rel => exact ⟨u + 1, by go_num, by omega, HR1.out, by rw [HE.out]; exact HJ1.out⟩
        case measure => simp [intOf]; omega
      obtain ⟨k, rfl⟩ : ∃ k : Nat, xn = k := ⟨xn.toNat, by omega⟩
      obtain ⟨he, hp⟩ := clU_yes HX.out HBU.out rfl rfl (nf := mfs.length) (by omega)
      have HE := Hid.mk' he
      have HP := Hid.mk' hp
      obtain ⟨fy, tmps, assign, body, hy, hR⟩ := HY.out _ (u, k) _ HJ1.out hp
      clear he hp
      gi_wp2_with fail
      refine hR.mono ?_
      rintro e W3 ⟨hk3, ⟨rfl, hJ3⟩ | ⟨rfl, hJx3⟩⟩
      · have HR3 := Hid.mk' (HR1.out.kp hk3)
        rw [HE.out] at hJ3
        have HJ3 := Hid.mk' hJ3
        clear hk3 hR hy hJ3
        gi_wp2_with fail
        go_roundw
        case rel => exact ⟨u + 1, by go_num, by omega, HR3.out, HJ3.out⟩
        case measure => simp [intOf]; omega
      · gi_wp2_with fail
        exact bodyPost_ret (results_none rfl _ _ _) rfl ⟨⟨_, rfl⟩, .inr ⟨_, HP.out, hJx3⟩⟩
    · have hue : u = rs.length := by omega
      subst hue
      gi_wp2_with fail
      go_end0
      exact ⟨⟨_, rfl⟩, .inl HJS.out⟩
end Go.Proofs.Ytdnilonfgbinaaa
namespace Go.Proofs.Ytdnilonfgbinaaa
open Go.RowKit Go.Shelf

/-- With one more, if it isn't there. -/
def insU (s : List Nat) (k : Nat) : List Nat := if k ∈ s then s else k :: s
theorem mem_insU {s : List Nat} {k x : Nat} : x ∈ insU s k ↔ x = k ∨ x ∈ s := by
  unfold insU
  split
  · constructor
    · exact .inr
    · rintro (rfl | h)
      · assumption
      · exact h
  · exact List.mem_cons
theorem insU_len (s : List Nat) (k : Nat) : (insU s k).length ≤ s.length + 1 := by unfold insU; split <;> simp
theorem Mst.putU {W : World} {b : Nat} {s : List Nat} (h : Mst W b s) (k : Nat) (hk6 : k ≤ 4611686018427387904) (hl : s.length ≤ 1000000) :
    ∃ W', (Instr.mapUpdate 48 (.map (some b)) (.int .i64 (k : Int)) (.agg #[])).run Try.prog W = .ok () W' ∧ Mst W' b (insU s k) ∧ W.grownBy W' (some b) := by
  by_cases hk : k ∈ s
  · obtain ⟨D, h, hs, hn, h6, hh⟩ := h
    have hm := h.isMap
    have htd := h.tidy keyedN
    have hyes : Maps.has D (.int .i64 (k : Int)) = true := by rw [hh, hasI_nat]; exact decide_eq_true hk
    have hki : I64 (k : Int) := ⟨by omega, by omega⟩
    obtain ⟨W', hr, ho, hg⟩ := h.update keyedN Try.underlying48 (by unfold maxLen; omega) (key := .int .i64 (k : Int)) (val := .agg #[]) (Maps.keyOf_int_mk Try.underlying3 (a := (k : Int)) (by simp [Lit.wf]; exact hki)) unitElem_mk
    have hsz : Maps.size (D.put (.int .i64 (k : Int)) (.agg [])) = s.length := by rw [Maps.size_put htd, hyes, if_pos rfl, hs]
    have ho2 := map_tight ho
    rw [hsz] at ho2
    unfold insU
    rw [if_pos hk]
    refine ⟨W', hr, ⟨_, ho2, hsz, hn, h6, fun z => ?_⟩, hg⟩
    by_cases e : (k : Int) = z
    · subst e
      rw [Maps.has_put_same hm (by trivial), hasI_nat, decide_eq_true hk]
    · have hne : (Lit.int .i64 z) ≠ Lit.int .i64 (k : Int) := fun h => by cases h; exact e rfl
      rw [Maps.has_put_other hne, hh]
  · unfold insU
    rw [if_neg hk]
    exact h.put k hk hk6 hl
set_option maxHeartbeats 1000000 in
theorem laddU_any (b : Nat) (s : List Nat) (k : Nat) (w : World) (h : Mst w b s) (hk6 : k ≤ 4611686018427387904) (hl : s.length ≤ 1000000) : Calls Try.prog 27 #[.map (some b), .int .i64 (k : Int)] w fun e w' => e = .returned (.tuple #[]) ∧ Mst w' b (insU s k) ∧ w.grownBy w' (some b) := by
  obtain ⟨W', hp, hm, hg⟩ := h.putU k hk6 hl
  have HM := Hid.mk' hm
  have HG := Hid.mk' hg
  clear hm hg h hl hk6
  go_enter Try.func27, Try.ntmps27
  go_wp2_with fail
  go_end0
  exact ⟨rfl, HM.out, HG.out⟩

theorem calls_o (N A B B1 B2 : Nat) (mw : World) (m : Mo) (fn : Nat) (f : Fn) (rs : List Bool) (hf : m.funcs[fn]? = some f) (hrs : IsR f.code rs) (w : World) (hC : CaAt N A B B1 B2 mw m fn w) : SeqO 32 #[.pointer (some ⟨B1, 0, none⟩), .pointer (some ⟨B2, 0, none⟩)] encE (KpC N A B) (cls f.code rs m.funcs.length) w :=
  fun lq J Jx W hW hJ _ hY h0 => calls_any (callsOf1_o lq N A B B1 B2 mw m fn f rs hf hrs J Jx W hJ hY (hC.kp (i := W.heap.size) (kpC_below hW)) h0)
/-- What callsOf hands back. -/
def CoP (mw : World) (m : Mo) (f : Fn) (rs : List Bool) (w : World) (e : Ending) (w' : World) : Prop := ∃ B1 B2, e = .returned (.func (.func 32) #[] #[.pointer (some ⟨B1, 0, none⟩), .pointer (some ⟨B2, 0, none⟩)]) ∧ SeqO 32 #[.pointer (some ⟨B1, 0, none⟩), .pointer (some ⟨B2, 0, none⟩)] encE (KpC mw.heap.size w.heap.size w'.heap.size) (cls f.code rs m.funcs.length) w' ∧ Below w.heap.size w w' ∧ w.heap.size < w'.heap.size
set_option maxHeartbeats 1000000 in
theorem callsOf_any (mw : World) (m : Mo) (fn : Nat) (f : Fn) (rs : List Bool) (hf : m.funcs[fn]? = some f) (hrs : IsR f.code rs) (w : World) (hm : m.In mw) (ha : AllIn mw w) : Calls Try.prog 26 #[m.val, .int .i64 (fn : Int)] w (CoP mw m f rs w) := by
  have HO : Hid (CoP mw m f rs w (.returned (.func (.func 32) #[] #[.pointer (some ⟨w.heap.size, 0, none⟩), .pointer (some ⟨w.heap.size + 1, 0, none⟩)])) ((w.alloc (.cells #[.slice m.ta m.ths.length m.tc, .slice m.fa m.funcs.length m.fc] 25)).alloc (.cells #[.int .i64 (fn : Int)] 3))) := by
    have b1 := Below.one (Below.refl _ w) (.cells #[.slice m.ta m.ths.length m.tc, .slice m.fa m.funcs.length m.fc] 25)
    have b2 := Below.one (Below.refl _ (w.alloc (.cells #[.slice m.ta m.ths.length m.tc, .slice m.fa m.funcs.length m.fc] 25))) (.cells #[.int .i64 (fn : Int)] 3)
    have b3 := Below.on b1 b2
    refine ⟨_, _, rfl, calls_o _ _ _ _ _ mw m fn f rs hf hrs _ ⟨?_, ?_, ?_, ?_, Nat.le_refl _, hm, ha.below b3⟩, b3, by simp; omega⟩
    · simp only [World.size_alloc]; omega
    · simp only [World.size_alloc]; omega
    · exact blk_stay (heap_alloc_new w _) b2
    · have := heap_alloc_new (w.alloc (.cells #[.slice m.ta m.ths.length m.tc, .slice m.fa m.funcs.length m.fc] 25)) (.cells #[.int .i64 (fn : Int)] 3)
      rwa [World.size_alloc] at this
  clear hf hrs hm ha
  unfold Mo.val
  go_enter Try.func26, Try.ntmps26
  go_wp2_with fail
  go_ret
  exact HO.out
end Go.Proofs.Ytdnilonfgbinaaa
namespace Go.Proofs.Ytdnilonfgbinaaa
open Go.RowKit Go.Shelf
attribute [local go_sem] Oper.semAt_some

/-- The set that is made of so many calls. -/
def setU (pre : List (Nat × Nat)) : List Nat := pre.foldl (fun s x => insU s x.2) []
theorem setU_snoc (pre : List (Nat × Nat)) (x : Nat × Nat) : setU (pre ++ [x]) = insU (setU pre) x.2 := by unfold setU; rw [List.foldl_append]; rfl
theorem foldl_insU_len : ∀ (pre : List (Nat × Nat)) (s : List Nat), (pre.foldl (fun s x => insU s x.2) s).length ≤ s.length + pre.length
  | [], s => by simp
  | x :: pre, s => by
    have h1 := foldl_insU_len pre (insU s x.2)
    have h2 := insU_len s x.2
    simp only [List.foldl_cons, List.length_cons]
    omega
theorem setU_len (pre : List (Nat × Nat)) : (setU pre).length ≤ pre.length := by
  have := foldl_insU_len pre []
  rw [List.length_nil, Nat.zero_add] at this
  exact this
theorem mem_foldl_insU {y : Nat} : ∀ (pre : List (Nat × Nat)) (s : List Nat), y ∈ pre.foldl (fun s x => insU s x.2) s ↔ y ∈ s ∨ ∃ x ∈ pre, x.2 = y
  | [], s => by simp
  | x :: pre, s => by
    simp only [List.foldl_cons]
    rw [mem_foldl_insU pre, mem_insU]
    simp only [List.mem_cons, exists_eq_or_imp]
    constructor
    · rintro ((rfl | h) | h)
      · exact .inr (.inl rfl)
      · exact .inl h
      · exact .inr (.inr h)
    · rintro (h | rfl | h)
      · exact .inl (.inr h)
      · exact .inl (.inl rfl)
      · exact .inr h
theorem mem_setU {y : Nat} {pre : List (Nat × Nat)} : y ∈ setU pre ↔ ∃ u, (u, y) ∈ pre := by
  unfold setU
  rw [mem_foldl_insU]
  constructor
  · rintro (h | ⟨⟨u, v⟩, h, rfl⟩)
    · cases h
    · exact ⟨u, h⟩
  · rintro ⟨u, h⟩
    exact .inr ⟨_, h, rfl⟩
theorem clU_len (l : List Is) (rs : List Bool) (nf : Nat) : ∀ u, (clU l rs nf u).length ≤ u
  | 0 => by simp [clU]
  | u + 1 => by
    rw [clU_succ, List.length_append]
    have := clU_len l rs nf u
    have : (clB l rs nf u).length ≤ 1 := by
      unfold clB
      split
      · split <;> simp
      · simp
    omega
theorem AllIn.le {w W : World} (h : AllIn w W) : w.heap.size ≤ W.heap.size := by
  refine Nat.le_of_not_lt fun hl => ?_
  have := h W.heap.size _ (Array.getElem?_eq_getElem hl)
  have := (Array.getElem?_eq_some_iff.1 this).1
  omega
/-- What the loop of calledBy keeps. -/
structure CbI (w : World) (b x : Nat) (pre : List (Nat × Nat)) (W : World) : Prop where
  q : Boxed W x 48 (.map (some b))
  m : Mst W b (setU pre)
  l : Below w.heap.size w W
theorem CbI.own (w : World) {b x B : Nat} (h1 : w.heap.size ≤ B) (h2 : b < B) (h3 : x < B) : OwnFrom B (CbI w b x) := fun pre W W' row h hg hr =>
  ⟨(hg.block x (Array.getElem?_eq_some_iff.1 h.q).1 (fun e => by have := (hr x e.symm).1; omega)).trans h.q, h.m.kept hg (fun e => by have := (hr b e).1; omega), h.l.grown hg h.l.size (fun k e => Nat.le_trans h1 (hr k e).1)⟩
theorem CbI.next {w : World} {b x : Nat} {pre : List (Nat × Nat)} {W W' : World} (h : CbI w b x pre W) (y : Nat × Nat) (hb : w.heap.size ≤ b) (hx : b ≠ x) (hm : Mst W' b (insU (setU pre) y.2)) (hg : W.grownBy W' (some b)) : CbI w b x (pre ++ [y]) W' :=
  ⟨(hg.block x (Array.getElem?_eq_some_iff.1 h.q).1 (fun e => by cases e; exact hx rfl)).trans h.q, by rw [setU_snoc]; exact hm, h.l.grown hg h.l.size (fun k e => by cases e; exact hb)⟩
theorem kpC_grown {N A B i b : Nat} {W W' : World} (hg : W.grownBy W' (some b)) (h1 : N ≤ b) (h2 : b < A) (h3 : b < i) : KpC N A B i W W' := by
  have hk : ∀ (k : Nat) (o : Obj), k ≠ b → W.heap[k]? = some o → W'.heap[k]? = some o := fun k o hk h => (hg.block k (Array.getElem?_eq_some_iff.1 h).1 (fun e => by cases e; exact hk rfl)).trans h
  exact ⟨⟨hg.size, fun k o h => hk k o (by omega)⟩, ⟨hg.size, fun k o h => hk k o (by omega)⟩⟩
theorem kpC_t {N A B i : Nat} {X Y Z : World} (h : KpC N A B i X Y) (k : KpC N A B i Y Z) : KpC N A B i X Z := ⟨kpE_t h.1 k.1, kpE_t h.2 k.2⟩
theorem kpC_b {N A B i l : Nat} (hN : N ≤ l) (hB : B ≤ l) (hl : l < i) (W : World) (o' : Obj) : KpC N A B i W (W.putObj l o') := ⟨kpE_b hB hl W o', kpE_b hN hl W o'⟩
theorem kpC_refl (N A B i : Nat) (W : World) : KpC N A B i W W := ⟨kpE_refl _ _ _ _, kpE_refl _ _ _ _⟩
def CbX (_ : Code) (_ : List (Nat × Nat)) (_ : World) : Prop := False
theorem CbX.own (B : Nat) (c : Code) : OwnFrom B (CbX c) := fun _ _ _ _ h _ _ => h.elim
/-- What calledBy tells. -/
def CbP (cl : List (Nat × Nat)) (w : World) (e : Ending) (w' : World) : Prop := ∃ b s, e = .returned (.map (some b)) ∧ w.heap.size ≤ b ∧ Mst w' b s ∧ (∀ y, y ∈ s ↔ ∃ u, (u, y) ∈ cl) ∧ s.length ≤ 1024 ∧ Below w.heap.size w w'
set_option maxRecDepth 100000 in
set_option maxHeartbeats 4000000 in
theorem calledBy_in (mw : World) (m : Mo) (fn : Nat) (f : Fn) (rs : List Bool) (hf : m.funcs[fn]? = some f) (hrs : IsR f.code rs) (w : World) (hm : m.In mw) (ha : AllIn mw w) : CallsIn Fence.wide 5 Try.prog 15 #[m.val, .int .i64 (fn : Int)] w (CbP (cls f.code rs m.funcs.length) w) := by
  have HCO : Hid (∀ w', Below w.heap.size w w' → Calls Try.prog 26 #[m.val, .int .i64 (fn : Int)] w' (CoP mw m f rs w')) := fun w' hb => callsOf_any mw m fn f rs hf hrs w' hm (ha.below hb)
  have HLE := Hid.mk' ha.le
  have HCL : Hid (∀ pre x, pre ++ [x] <+: cls f.code rs m.funcs.length → x.2 ≤ 4611686018427387904 ∧ pre.length ≤ 1000000) := by
    intro pre x hp
    have h1 := (cls_lt (hp.subset (by simp : x ∈ pre ++ [x]))).1
    have h2 := hp.length_le
    have h3 := clU_len f.code rs m.funcs.length rs.length
    have h4 := hrs.len
    have h5 := hm.2.2.1.1
    unfold cls at h2
    rw [List.length_append, List.length_singleton] at h2
    omega
  have HLC : Hid ((setU (cls f.code rs m.funcs.length)).length ≤ 1024) := Nat.le_trans (setU_len _) (Nat.le_trans (clU_len f.code rs m.funcs.length rs.length) hrs.len)
  have HB1 := Hid.mk' (Below.one (Below.one (Below.one (Below.refl _ w) (.cells #[.slice m.ta m.ths.length m.tc, .slice m.fa m.funcs.length m.fc] 25)) (.map #[] 0)) (.cells #[.map (some (w.heap.size + 1))] 48))
  have HI0 : Hid (CbI w (w.heap.size + 1) (w.heap.size + 1 + 1) [] (((w.alloc (.cells #[.slice m.ta m.ths.length m.tc, .slice m.fa m.funcs.length m.fc] 25)).alloc (.map #[] 0)).alloc (.cells #[.map (some (w.heap.size + 1))] 48))) := by
    have h1 := Boxed.new ((w.alloc (.cells #[.slice m.ta m.ths.length m.tc, .slice m.fa m.funcs.length m.fc] 25)).alloc (.map #[] 0)) 48 (.map (some (w.heap.size + 1)))
    have h2 := (mst_made (w.alloc (.cells #[.slice m.ta m.ths.length m.tc, .slice m.fa m.funcs.length m.fc] 25))).stay (Below.one (Below.refl _ _) (.cells #[.map (some (w.heap.size + 1))] 48))
    simp only [World.size_alloc] at h1 h2
    exact ⟨h1, h2, HB1.out⟩
  have HSZ : Hid ((((w.alloc (.cells #[.slice m.ta m.ths.length m.tc, .slice m.fa m.funcs.length m.fc] 25)).alloc (.map #[] 0)).alloc (.cells #[.map (some (w.heap.size + 1))] 48)).heap.size = w.heap.size + 1 + 1 + 1) := (by simp only [World.size_alloc] : _ = _)
  clear hf hrs hm ha
  obtain ⟨mta, mtc, mths, mfa, mfc, mfs⟩ := m
  unfold Mo.val at *
  simp only at *
  have hmm := @run_makeMap Try.prog
  refine callsIn_of_wp_marks Try.func15 rfl trivial ?_ rfl
  simp only [Try.ntmps15, List.size_toArray, List.length_cons, List.length_nil, Nat.reduceAdd, Nat.reduceSub, Array.replicate_succ, Array.replicate_zero, List.push_toArray, List.append_toArray, List.nil_append, List.cons_append]
  gi_wp2_with fail
  clear hmm
  refine ⟨trivial, ?_⟩
  generalize ((w.alloc (.cells #[.slice mta mths.length mtc, .slice mfa mfs.length mfc] 25)).alloc (.map #[] 0)).alloc (.cells #[.map (some (w.heap.size + 1))] 48) = W0 at *
  refine (callsIn_wide.2 (HCO.out _ HB1.out)).mono ?_
  rintro e W2 ⟨B1, B2, rfl, hseq, bb2, hlt2⟩
  have HSQ := Hid.mk' hseq
  have I0 : CbI w (w.heap.size + 1) (w.heap.size + 1 + 1) [] W2 := ⟨(bb2.block _ HI0.out.q.lt).trans HI0.out.q, HI0.out.m.stay bb2, Below.on HI0.out.l bb2⟩
  have hs5 := HSZ.out
  have hle := HLE.out
  generalize W0.heap.size = G5 at *
  clear hseq bb2 HI0 HCO HSZ HB1
  gi_wp2_with fail
  refine range_o (m := 4) (gf := 32) (lb := #[.pointer (some ⟨B1, 0, none⟩), .pointer (some ⟨B2, 0, none⟩)]) rfl (enters_of Try.func32 (by kernel_rfl) rfl) HSQ.out (Below.refl _ _) (fun _ => rfl) (fun h k => kpC_t h k) (fun W o' _ => kpC_b (by omega) (by omega) (by omega) W o')
    (CbI w (w.heap.size + 1) (w.heap.size + 1 + 1)) CbX (CbI.own w (by omega) (by omega) (by omega)) (fun c => CbX.own _ c) I0 (fun x a' _ => a' = { tmps := #[.agg #[.slice mta mths.length mtc, .slice mfa mfs.length mfc], .int .i64 (fn : Int), .pointer (some ⟨w.heap.size, 0, none⟩), undef, .map none, .pointer (some ⟨w.heap.size + 1 + 1, 0, none⟩), undef, .int .i64 (x.2 : Int), .map (some (w.heap.size + 1)), .agg #[.slice mta mths.length mtc, .slice mfa mfs.length mfc], .int .i64 (fn : Int), .func (.func 32) #[] #[.pointer (some ⟨B1, 0, none⟩), .pointer (some ⟨B2, 0, none⟩)], .int .i64 (x.1 : Int), .int .i64 (x.2 : Int), undef, undef, undef, undef], defers := [] }) (fun x a' _ W W' row h _ _ => h) ?assign ?body ?done ?stop
  case assign =>
    intro l pre x W hi _
    gi_wp2
    exact ⟨KeepsFrom.refl _ _, kpC_refl _ _ _ _ _, hi, trivial⟩
  case stop =>
    rintro c pre W _ h _
    exact h.elim
  case body =>
    rintro l pre x a' W hi rfl hpx
    obtain ⟨hx1, hx2⟩ := HCL.out pre x hpx
    have e5 := hi.q.cell
    have HA := Hid.mk' (laddU_any (w.heap.size + 1) (setU pre) x.2 W hi.m hx1 (Nat.le_trans (setU_len pre) hx2))
    have HI := Hid.mk' hi
    clear hi hpx
    gi_wp2_with fail
    refine ⟨trivial, ?_⟩
    refine (show CallsIn (Fence.wide.inRound l) 3 Try.prog 27 _ _ _ from callsIn_wide.2 HA.out).mono ?_
    rintro e W3 ⟨rfl, hm3, hg3⟩
    have HN := Hid.mk' (HI.out.next x (by omega) (by omega) hm3 hg3)
    have HG := Hid.mk' hg3
    clear hm3 hg3 HA e5
    gi_wp2
    exact ⟨⟨HG.out.size, fun k o hk h _ => (HG.out.block k (Array.getElem?_eq_some_iff.1 h).1 (fun e => by have := Option.some.inj e; omega)).trans h⟩, kpC_grown HG.out (by omega) (by omega) (by omega), HN.out⟩
  case done =>
    rintro W4 hi4 hK4
    have e5 := hi4.q.cell
    have HI := Hid.mk' hi4
    clear hi4
    gi_wp2
    refine ⟨by simp, .inl ⟨_, _, rfl, run_takeDeferred hK4, ?_⟩⟩
    have hg := grownBy_putObj' W4 W2.heap.size (.deferred none)
    refine ⟨.map (some (w.heap.size + 1)), by simp [results, Try.results15, go_sem], _, setU (cls f.code rs mfs.length), rfl, by omega, HI.out.m.kept hg (fun e => by have := Option.some.inj e; omega), fun y => mem_setU, HLC.out, ?_⟩
    exact HI.out.l.grown hg HI.out.l.size (fun k e => by have := Option.some.inj e; omega)
theorem calledBy_any (mw : World) (m : Mo) (fn : Nat) (f : Fn) (rs : List Bool) (hf : m.funcs[fn]? = some f) (hrs : IsR f.code rs) (w : World) (hm : m.In mw) (ha : AllIn mw w) : Calls Try.prog 15 #[m.val, .int .i64 (fn : Int)] w (CbP (cls f.code rs m.funcs.length) w) :=
  callsIn_wide.1 (calledBy_in mw m fn f rs hf hrs w hm ha)
end Go.Proofs.Ytdnilonfgbinaaa
namespace Go.Proofs.Ytdnilonfgbinaaa
open Go.RowKit Go.Shelf

theorem isR_ex (l : List Is) : ∃ rs, IsR l rs := by
  classical
  by_cases h0 : l.length = 0
  · exact ⟨[], .inl ⟨.inl h0, rfl⟩⟩
  by_cases h1 : 1024 < l.length
  · exact ⟨[], .inl ⟨.inr h1, rfl⟩⟩
  refine ⟨(List.range l.length).map fun v => decide (Rch l v), .inr ⟨by omega, by omega, by simp, fun v => ?_⟩⟩
  rw [List.getElem?_map]
  by_cases hv : v < l.length
  · rw [List.getElem?_range hv]
    simp
  · rw [List.getElem?_eq_none (by rw [List.length_range]; omega)]
    constructor
    · intro h; cases h
    · exact fun h => absurd (h.lt (by omega)) hv
/-- A function calls another one, by any number. -/
def Cal (m : Mo) (z : Int) (y : Nat) : Prop := ∃ (fn : Nat) (f : Fn) (rs : List Bool) (u : Nat), z = (fn : Int) ∧ m.funcs[fn]? = some f ∧ IsR f.code rs ∧ (u, y) ∈ cls f.code rs m.funcs.length
theorem cal_at {m : Mo} {fn : Nat} {f : Fn} {rs : List Bool} (hf : m.funcs[fn]? = some f) (hrs : IsR f.code rs) (y : Nat) : Cal m (fn : Int) y ↔ ∃ u, (u, y) ∈ cls f.code rs m.funcs.length := by
  constructor
  · rintro ⟨fn', f', rs', u, e, h1, h2, h3⟩
    obtain rfl : fn = fn' := by omega
    rw [hf] at h1
    injection h1 with h1
    subst h1
    obtain rfl := hrs.one h2
    exact ⟨u, h3⟩
  · rintro ⟨u, h⟩
    exact ⟨fn, f, rs, u, rfl, hf, hrs, h⟩
theorem Cal.lt {m : Mo} {z : Int} {y : Nat} (h : Cal m z y) : y < m.funcs.length := by
  obtain ⟨fn, f, rs, u, _, _, _, h⟩ := h
  exact (cls_lt h).1
theorem cal_no {m : Mo} {z : Int} (h : z < 0 ∨ (m.funcs.length : Int) ≤ z) (y : Nat) : ¬ Cal m z y := by
  rintro ⟨fn, f, rs, u, rfl, h1, _, _⟩
  have := (List.getElem?_eq_some_iff.1 h1).1
  omega
/-- A list says what a function calls. -/
def IsOf (m : Mo) (z : Int) (ks : List Nat) : Prop := ks.Pairwise (· < ·) ∧ ∀ y, y ∈ ks ↔ Cal m z y
theorem IsOf.one {m : Mo} {z : Int} {a b : List Nat} (h : IsOf m z a) (k : IsOf m z b) : a = b := rise_ext h.1 k.1 fun x => (h.2 x).trans (k.2 x).symm
theorem isOf_nil {m : Mo} {z : Int} (h : z < 0 ∨ (m.funcs.length : Int) ≤ z) : IsOf m z [] := ⟨List.Pairwise.nil, fun y => ⟨(fun h => by cases h), fun k => absurd k (cal_no h y)⟩⟩
/-- What Of tells. -/
def OfP (m : Mo) (z : Int) (w : World) (e : Ending) (w' : World) : Prop := ∃ v ks, e = .returned v ∧ IsOf m z ks ∧ On w.heap.size ks v w' ∧ Below w.heap.size w w'
set_option maxRecDepth 100000 in
set_option maxHeartbeats 4000000 in
theorem of_any (mw : World) (m : Mo) (z : Int) (w : World) (hm : m.In mw) (ha : AllIn mw w) : Calls Try.prog 7 #[m.val, .int .i64 z] w (OfP m z w) := by
  have HB := Hid.mk' (Below.one (Below.refl _ w) (.cells #[.slice m.ta m.ths.length m.tc, .slice m.fa m.funcs.length m.fc] 25))
  have c0 := new_cell w #[.slice m.ta m.ths.length m.tc, .slice m.fa m.funcs.length m.fc] 25 0 (.slice m.ta m.ths.length m.tc) rfl
  have c1 := new_cell w #[.slice m.ta m.ths.length m.tc, .slice m.fa m.funcs.length m.fc] 25 1 (.slice m.fa m.funcs.length m.fc) rfl
  have hml := hm.2.2.1.1
  by_cases hneg : z < 0
  · have HE := Hid.mk' (isOf_nil (m := m) (.inl hneg))
    clear hm ha
    unfold Mo.val
    go_enter Try.func7, Try.ntmps7
    go_wp2_with fail
    go_ret
    exact ⟨_, [], rfl, HE.out, on_nil _ _, HB.out⟩
  obtain ⟨fn, rfl⟩ : ∃ i : Nat, z = i := ⟨z.toNat, by omega⟩
  by_cases hge : m.funcs.length ≤ fn
  · have HE := Hid.mk' (isOf_nil (m := m) (z := (fn : Int)) (.inr (by omega)))
    have hgi : (m.funcs.length : Int) ≤ (fn : Int) := by omega
    clear hm ha hge
    unfold Mo.val
    go_enter Try.func7, Try.ntmps7
    go_wp2_with fail
    go_ret
    exact ⟨_, [], rfl, HE.out, on_nil _ _, HB.out⟩
  have hlt : fn < m.funcs.length := by omega
  have hli : (fn : Int) < (m.funcs.length : Int) := by omega
  obtain ⟨f, hf⟩ : ∃ f, m.funcs[fn]? = some f := ⟨_, List.getElem?_eq_getElem hlt⟩
  obtain ⟨rs, hrs⟩ := isR_ex f.code
  have HCB := Hid.mk' (calledBy_any mw m fn f rs hf hrs _ hm (ha.below HB.out))
  have HCA := Hid.mk' (cal_at hf hrs)
  clear hm ha hge hf hrs hlt hneg
  unfold Mo.val at *
  go_enter Try.func7, Try.ntmps7
  go_wp2_with fail
  refine HCB.out.mono ?_
  rintro e w1 ⟨b, s, rfl, hb1, hm1, hs1, hl1, bb1⟩
  have HB1 := Hid.mk' (Below.on HB.out bb1)
  have HSO := Hid.mk' (lsorted_any b s w1 hm1 (by omega))
  have HS1 := Hid.mk' hs1
  clear HCB hb1 hm1 hs1 hl1 bb1 c0 c1
  go_wp2_with fail
  refine HSO.out.mono ?_
  rintro e w2 ⟨v2, ks, rfl, on2, hr2, hk2, bb2⟩
  have HO2 := Hid.mk' (own_mono on2 HB1.out.size)
  have HB2 := Hid.mk' (Below.on HB1.out bb2)
  have HI2 : Hid (IsOf m (fn : Int) ks) := ⟨hr2, fun y => ((hk2 y).trans (HS1.out y)).trans (HCA.out y).symm⟩
  clear on2 hr2 hk2 bb2 HSO
  go_wp2_with fail
  go_ret
  exact ⟨_, ks, rfl, HI2.out, HO2.out, HB2.out⟩
end Go.Proofs.Ytdnilonfgbinaaa
