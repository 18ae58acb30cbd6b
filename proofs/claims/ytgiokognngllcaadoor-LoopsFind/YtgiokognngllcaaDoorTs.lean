/- What graphOf has in memory. -/
import Derived.Test.YtgiokognngllcaaDoorTr
import Derived.Test.YtgiokognngllcaaDoorTc
import Derived.Test.YtgiokognngllcaaDoorGgak
import Derived.Test.YtgiokognngllcaaDoorGgan
namespace Go.Proofs.YtgiokognngllcaaDoor
open Go.RowKit Go.Shelf

/-- Rows of numbers that three blocks hold. -/
structure G3 (n : Nat) (F : Nat → Nat) (N : Nat) (L : Nat → Nat → List Nat) (vs : Nat → List Value) (W : World) : Prop where
  f : ∀ a, a < 3 → W.heap[F a]? = some (.cells (vs a).toArray 38 (0, 0))
  len : ∀ a, a < 3 → (vs a).length = n
  rows : ∀ a j, a < 3 → j < n → On N (L a j) ((vs a).getD j undef) W
  ap : ∀ a i b j, a < 3 → i < n → b < 3 → j < n → ¬ (a = b ∧ i = j) → Apart ((vs a).getD i undef) ((vs b).getD j undef)
  sz : N ≤ W.heap.size
/-- Where all lies. -/
structure GP (n x xt FB N A : Nat) (F : Nat → Nat) (w0 : Nat) (tv : Value) : Prop where
  px : w0 ≤ x ∧ x < A
  pt : w0 ≤ xt ∧ xt < A
  fb : w0 ≤ FB ∧ FB < A
  f : ∀ a, a < 3 → w0 ≤ F a ∧ F a < A
  an : A ≤ N
  xf : ∀ a, a < 3 → x ≠ F a
  tf : ∀ a, a < 3 → xt ≠ F a
  bf : ∀ a, a < 3 → FB ≠ F a
  xb : x ≠ FB
  tb : xt ≠ FB
  ff : ∀ a b, a < 3 → b < 3 → a ≠ b → F a ≠ F b
  own : ∀ k, tv.ownBlock = some k → k < A
def gV (n FB : Nat) (F : Nat → Nat) : Array Value := #[.slice (some ⟨F 0, 0, none⟩) n n, .slice (some ⟨F 1, 0, none⟩) n n, .slice (some ⟨F 2, 0, none⟩) n n, .slice (some ⟨FB, 0, none⟩) n n]
structure GD (w : World) (n x xt FB N : Nat) (F : Nat → Nat) (tv : Value) (ts : List Int) (L : Nat → Nat → List Nat) (vs : Nat → List Value) (fb : List Bool) (W : World) : Prop where
  g : G3 n F N L vs W
  bx : W.heap[x]? = some (.cells (gV n FB F) 58 (0, 0))
  bt : Boxed W xt 38 tv
  ot : Oi w.heap.size ts tv W
  fl : fb.length = n
  fr : Ob w.heap.size fb (.slice (some ⟨FB, 0, none⟩) n n) W
  b : Below w.heap.size w W
theorem GD.own (w : World) {n x xt FB N B : Nat} {F : Nat → Nat} {tv : Value} {ts : List Int} {β : Type} (L : β → Nat → Nat → List Nat) (fb : β → List Bool) (hB : w.heap.size ≤ B) : OwnFrom B (fun (s : β) W => ∃ vs, GD w n x xt FB N F tv ts (L s) vs (fb s) W) := fun _ _ _ _ ⟨vs, h⟩ hg hr =>
  ⟨vs, ⟨fun a ha => cells_grown (h.g.f a ha) hg (fun r e => (hr r e).2), h.g.len, fun a j ha hj => own_grown (h.g.rows a j ha hj) hg (fun r e => (hr r e).2), h.g.ap, Nat.le_trans h.g.sz hg.size⟩,
    cells_grown h.bx hg (fun r e => (hr r e).2), boxed_grown h.bt hg (fun r e => (hr r e).2), own_grown h.ot hg (fun r e => (hr r e).2), h.fl, own_grown h.fr hg (fun r e => (hr r e).2), h.b.grown hg h.b.size (fun k e => Nat.le_trans hB (hr k e).1)⟩
theorem GD.drew {w : World} {n x xt FB N : Nat} {F : Nat → Nat} {tv : Value} {ts : List Int} {L : Nat → Nat → List Nat} {vs : Nat → List Value} {fb : List Bool} {W : World} (h : GD w n x xt FB N F tv ts L vs fb W) : GD w n x xt FB N F tv ts L vs fb W.drew :=
  ⟨⟨h.g.f, h.g.len, h.g.rows, h.g.ap, h.g.sz⟩, h.bx, h.bt, h.ot, h.fl, h.fr, Below.drew h.b⟩
theorem GD.stay {w : World} {n x xt FB N : Nat} {F : Nat → Nat} {tv : Value} {ts : List Int} {L : Nat → Nat → List Nat} {vs : Nat → List Value} {fb : List Bool} {W W' : World} (h : GD w n x xt FB N F tv ts L vs fb W) (hb : Below W.heap.size W W') : GD w n x xt FB N F tv ts L vs fb W' :=
  ⟨⟨fun a ha => blk_stay (h.g.f a ha) hb, h.g.len, fun a j ha hj => own_stay (h.g.rows a j ha hj) hb, h.g.ap, Nat.le_trans h.g.sz hb.size⟩, blk_stay h.bx hb, boxed_stay h.bt hb, own_stay h.ot hb, h.fl, own_stay h.fr hb, Below.on h.b hb⟩
def fsG (F : Nat → Nat) : List Nat := [F 0, F 1, F 2]
theorem mem_fsG {F : Nat → Nat} {k : Nat} (h : k ∈ fsG F) : ∃ a, a < 3 ∧ k = F a := by
  unfold fsG at h
  simp only [List.mem_cons, List.not_mem_nil, or_false] at h
  rcases h with h | h | h
  · exact ⟨0, by decide, h⟩
  · exact ⟨1, by decide, h⟩
  · exact ⟨2, by decide, h⟩
theorem fsG_mem {F : Nat → Nat} {a : Nat} (h : a < 3) : F a ∈ fsG F := by
  unfold fsG
  match a, h with
  | 0, _ => simp
  | 1, _ => simp
  | 2, _ => simp
/-- Behind an append to row v of a, and the store of what it told. -/
theorem GD.next {w : World} {n x xt FB N A i : Nat} {F : Nat → Nat} {tv : Value} {ts : List Int} {L L' : Nat → Nat → List Nat} {vs : Nat → List Value} {fb : List Bool} {W W' : World} {a v u : Nat} {v' : Value} (h : GD w n x xt FB N F tv ts L vs fb W) (hp : GP n x xt FB N A F w.heap.size tv) (ha : a < 3) (hv : v < n) (hNi : N ≤ i)
    (hn : On N (L a v ++ [u]) v' W') (hg : W.grownBy W' ((vs a).getD v undef).ownBlock) (ho : v'.ownBlock = ((vs a).getD v undef).ownBlock ∨ v'.ownBlock = some (W.heap.size + 1)) (e1 : L' a v = L a v ++ [u]) (e2 : ∀ b j, b < 3 → ¬ (b = a ∧ j = v) → L' b j = L b j) :
    GD w n x xt FB N F tv ts L' (fun b => if b = a then (vs a).set v v' else vs b) fb (W'.setCell ⟨F a, v, none⟩ v') ∧ KpG A N (fsG F) i W (W'.setCell ⟨F a, v, none⟩ v') ∧ KeepsOthers W (W'.setCell ⟨F a, v, none⟩ v') := by
  have hl := h.g.len a ha
  have hvl : v < (vs a).length := by omega
  have hro := h.g.rows a v ha hv
  have hfa := hp.f a ha
  have han := hp.an
  have hrb : ∀ k, ((vs a).getD v undef).ownBlock = some k → N ≤ k := fun k e => own_base hro k e
  have hs : (W'.setCell ⟨F a, v, none⟩ v').heap.size = W'.heap.size := by simp
  -- blocks ahead of N stay over the append
  have low : ∀ k, k < N → k < W.heap.size → W'.heap[k]? = W.heap[k]? := fun k hk hks => hg.block k hks fun e => by have := hrb k e.symm; omega
  have lt : ∀ {k : Nat} {o : Obj}, W.heap[k]? = some o → k < W.heap.size := fun e => (Array.getElem?_eq_some_iff.1 e).1
  have hf' : ∀ b, b < 3 → W'.heap[F b]? = some (.cells (vs b).toArray 38 (0, 0)) := fun b hb => (low (F b) (by have := hp.f b hb; omega) (lt (h.g.f b hb))).trans (h.g.f b hb)
  have keep : ∀ {m : Nat} {q : Value} {xs : List Value}, W'.ownsRow N 3 1 q m xs → (W'.setCell ⟨F a, v, none⟩ v').ownsRow N 3 1 q m xs := fun {m q xs} hq => own_set hq (hf' a ha) (by decide) v v'
  have hset : ∀ b, b < 3 → b ≠ a → (W'.setCell ⟨F a, v, none⟩ v').heap[F b]? = W'.heap[F b]? := fun b hb e => heap_setCell_other W' ⟨F a, v, none⟩ (F b) v' (hp.ff b a hb ha e)
  have fresh : ∀ {c j : Nat}, c < 3 → j < n → Apart ((vs c).getD j undef) ((vs a).getD v undef) → Apart ((vs c).getD j undef) v' := fun {c j} hc hj hap => Apart.next hap (h.g.rows c j hc hj) ho
  have flip : ∀ {p q : Value}, Apart p q → Apart q p := fun {p q} hpq => by
    unfold Apart at hpq ⊢
    rcases hpq with h1 | h1
    · rw [h1]
      cases q.ownBlock with
      | none => exact .inl rfl
      | some k => exact .inr (by simp)
    · exact .inr (Ne.symm h1)
  have hmem : ∀ k, ((vs a).getD v undef).ownBlock = some k → dG (fsG F) W k := fun k e => ⟨F a, fsG_mem ha, _, _, _, h.g.f a ha, (vs a).getD v undef, List.mem_of_getElem? (vs_at hvl), e⟩
  refine ⟨⟨⟨fun b hb => ?_, fun b hb => ?_, fun b j hb hj => ?_, fun b i c j hb hi hc hj hnq => ?_, by rw [hs]; exact Nat.le_trans h.g.sz hg.size⟩, ?_, ?_, ?_, h.fl, ?_, ?_⟩, ⟨by rw [hs]; exact hg.size, fun k o hk hko => ?_, fun k o hk hd hko => ?_, fun k hd => ?_⟩, ?_⟩
  · by_cases e : b = a
    · subst e
      have := heap_setCell_same W' (F b) v (vs b).toArray 38 v' (hf' b hb)
      rw [List.setIfInBounds_toArray] at this
      simp only [if_true]
      exact this
    · simp only [e, if_false]
      exact (hset b hb e).trans (hf' b hb)
  · by_cases e : b = a
    · subst e; simp only [if_true, List.length_set]; exact h.g.len b hb
    · simp only [e, if_false]; exact h.g.len b hb
  · by_cases e : b = a
    · subst e
      simp only [if_true]
      rw [vs_set hvl]
      by_cases ej : j = v
      · subst ej; rw [if_pos rfl, e1]; exact keep hn
      · rw [if_neg ej, e2 b j hb (fun h => ej h.2)]
        exact keep ((h.g.rows b j hb hj).kept hg (h.g.ap b j b v hb hj hb hv (fun h => ej h.2)))
    · simp only [e, if_false]
      rw [e2 b j hb (fun h => e h.1)]
      exact keep ((h.g.rows b j hb hj).kept hg (h.g.ap b j a v hb hj ha hv (fun h => e h.1)))
  · have val : ∀ b j, b < 3 → j < n → (if b = a then (vs a).set v v' else vs b).getD j undef = if b = a ∧ j = v then v' else (vs b).getD j undef := fun b j hb hj => by
      by_cases e : b = a
      · subst e
        simp only [if_true]
        rw [vs_set hvl]
        by_cases ej : j = v
        · simp [ej]
        · simp [ej]
      · simp only [e, if_false, false_and]
    rw [val b i hb hi, val c j hc hj]
    by_cases e1 : b = a ∧ i = v
    · rw [if_pos e1]
      obtain ⟨rfl, rfl⟩ := e1
      rw [if_neg (fun h => hnq ⟨h.1.symm, h.2.symm⟩)]
      exact flip (fresh hc hj (h.g.ap c j b i hc hj hb hi (fun h => hnq ⟨h.1.symm, h.2.symm⟩)))
    · rw [if_neg e1]
      by_cases e2 : c = a ∧ j = v
      · rw [if_pos e2]
        obtain ⟨rfl, rfl⟩ := e2
        exact fresh hb hi (h.g.ap b i c j hb hi hc hj hnq)
      · rw [if_neg e2]
        exact h.g.ap b i c j hb hi hc hj hnq
  · exact (heap_setCell_other W' ⟨F a, v, none⟩ x v' (hp.xf a ha)).trans ((low x (by have := hp.px; omega) (lt h.bx)).trans h.bx)
  · have hbt := h.bt
    exact (heap_setCell_other W' ⟨F a, v, none⟩ xt v' (hp.tf a ha)).trans ((low xt (by have := hp.pt; omega) h.bt.lt).trans h.bt)
  · exact own_set (h.ot.kept hg (by
      cases e : tv.ownBlock with
      | none => exact .inl rfl
      | some k =>
        refine .inr fun e' => ?_
        have h1 := hp.own k e
        have h2 := hrb k e'.symm
        omega)) (hf' a ha) (by decide) v v'
  · exact own_set (h.fr.kept hg (own_ne h.fr hro (by decide))) (hf' a ha) (by decide) v v'
  · refine Below.setCell (p := ⟨F a, v, none⟩) ?_ hfa.1 v'
    exact h.b.grown hg h.b.size fun k e => by have := hrb k e; omega
  · refine (heap_setCell_other W' ⟨F a, v, none⟩ k v' (show k ≠ F a by omega)).trans ((hg.block k (Array.getElem?_eq_some_iff.1 hko).1 fun e => ?_).trans hko)
    have := hrb k e.symm
    omega
  · refine (heap_setCell_other W' ⟨F a, v, none⟩ k v' (show k ≠ F a by omega)).trans ((hg.block k (Array.getElem?_eq_some_iff.1 hko).1 fun e => ?_).trans hko)
    exact hd (hmem k e.symm)
  · obtain ⟨G, hG, cs, T, fz, h1, q, hq, e⟩ := hd
    obtain ⟨b, hb, rfl⟩ := mem_fsG hG
    by_cases eb : b = a
    · subst eb
      have := heap_setCell_same W' (F b) v (vs b).toArray 38 v' (hf' b hb)
      rw [List.setIfInBounds_toArray, h1] at this
      injection this with this
      injection this with this
      subst this
      rw [List.toList_toArray] at hq
      rcases List.mem_or_eq_of_mem_set hq with hq | rfl
      · exact .inl ⟨F b, fsG_mem hb, _, _, _, h.g.f b hb, q, hq, e⟩
      · rcases ho with ho | ho
        · exact .inl (hmem k (by rw [← ho, e]))
        · rw [ho] at e
          cases e
          rw [hs]
          exact .inr ⟨by omega, (hn.lt _ ho).2⟩
    · rw [hset b hb eb, hf' b hb] at h1
      injection h1 with h1
      injection h1 with h1
      subst h1
      exact .inl ⟨F b, fsG_mem hb, _, _, _, h.g.f b hb, q, hq, e⟩
  · refine (KeepsOthers.of_grownBy hg fun j o ej hj => ?_).trans (KeepsOthers.setCell _ _ _)
    rcases hro.2 with ⟨e, _⟩ | ⟨g, cap, cur, e, _, hgb, _⟩
    · rw [e] at ej; cases ej
    · rw [e] at ej
      cases ej
      rw [hgb] at hj; cases hj; rfl
/-- Behind a store of yes or no. -/
theorem GD.putB {w : World} {n x xt FB N A i : Nat} {F : Nat → Nat} {tv : Value} {ts : List Int} {L : Nat → Nat → List Nat} {vs : Nat → List Value} {fb : List Bool} {W : World} (h : GD w n x xt FB N F tv ts L vs fb W) (hp : GP n x xt FB N A F w.heap.size tv) (hNi : N ≤ i) (v : Nat) (c : Bool) :
    GD w n x xt FB N F tv ts L vs (fb.set v c) (W.setCell ⟨FB, v, none⟩ (.bool c)) ∧ KpG A N (fsG F) i W (W.setCell ⟨FB, v, none⟩ (.bool c)) ∧ KeepsOthers W (W.setCell ⟨FB, v, none⟩ (.bool c)) := by
  obtain ⟨cur, hc, hR⟩ := own_blk h.fr
  have ne : ∀ k, k ≠ FB → (W.setCell ⟨FB, v, none⟩ (.bool c)).heap[k]? = W.heap[k]? := fun k hk => heap_setCell_other W ⟨FB, v, none⟩ k (.bool c) hk
  have hs : (W.setCell ⟨FB, v, none⟩ (.bool c)).heap.size = W.heap.size := by simp
  have han := hp.an
  have hfb := hp.fb
  refine ⟨⟨⟨fun a ha => (ne _ (Ne.symm (hp.bf a ha))).trans (h.g.f a ha), h.g.len, fun a j ha hj => own_set (h.g.rows a j ha hj) hc (by decide) v _, h.g.ap, by rw [hs]; exact h.g.sz⟩, (ne _ hp.xb).trans h.bx, (ne _ hp.tb).trans h.bt, own_set h.ot hc (by decide) v _, by rw [List.length_set]; exact h.fl, ob_put h.fr v c, h.b.setCell hfb.1 _⟩,
    ⟨by rw [hs]; exact Nat.le_refl _, fun k o hk hko => (ne k (by omega)).trans hko, fun k o hk _ hko => (ne k (by omega)).trans hko, fun k hd => .inl (hd.same fun G hG => ?_)⟩, KeepsOthers.setCell _ _ _⟩
  obtain ⟨a, ha, rfl⟩ := mem_fsG hG
  exact ne _ (Ne.symm (hp.bf a ha))
theorem GD.dok {w : World} {n x xt FB N : Nat} {F : Nat → Nat} {tv : Value} {ts : List Int} {L : Nat → Nat → List Nat} {vs : Nat → List Value} {fb : List Bool} {W : World} (h : GD w n x xt FB N F tv ts L vs fb W) : DOkG (fsG F) W := fun k hd => by
  obtain ⟨G, hG, cs, T, fz, h1, q, hq, e⟩ := hd
  obtain ⟨a, ha, rfl⟩ := mem_fsG hG
  rw [h.g.f a ha] at h1
  injection h1 with h1
  injection h1 with h1
  subst h1
  rw [List.toList_toArray] at hq
  obtain ⟨j, hj, rfl⟩ := List.getElem_of_mem hq
  have := h.g.rows a j ha (by rw [← h.g.len a ha]; exact hj)
  rw [List.getD_eq_getElem?_getD, List.getElem?_eq_getElem hj] at this
  exact (this.lt k e).2
theorem KpG.undrew {A B : Nat} {Fs : List Nat} {i : Nat} {W W' : World} (h : KpG A B Fs i W.drew W') : KpG A B Fs i W W' := ⟨h.size, h.made, h.high, h.grow⟩
/-- All that a step of a body wants of it: ahead, and behind. -/
theorem GD.pack {w : World} {n x xt FB N A i : Nat} {F : Nat → Nat} {tv : Value} {ts : List Int} {L : Nat → Nat → List Nat} {vs : Nat → List Value} {fb : List Bool} {W : World} (h : GD w n x xt FB N F tv ts L vs fb W) (hp : GP n x xt FB N A F w.heap.size tv) {a v : Nat} (ha : a < 3) (hv : v < n) (hNi : N ≤ i) (hle : (L a v).length ≤ 3000) (u : Nat) (L' : Nat → Nat → List Nat) (e1 : L' a v = L a v ++ [u]) (e2 : ∀ b j, b < 3 → ¬ (b = a ∧ j = v) → L' b j = L b j) (ty : TypeId) :
    ∃ q : Value, (∃ aq cq, q = .slice aq (L a v).length cq) ∧ (W.drew.cell? ⟨x, a, none⟩ = some (.slice (some ⟨F a, 0, none⟩) n n) ∧ W.drew.cell? ⟨F a, v, none⟩ = some q) ∧
      (∃ v' W', (Builtin.append_ #[38, 38] ty #[q, .slice (some ⟨W.drew.heap.size, 0, none⟩) 1 1]).run Tryd.prog (W.drew.alloc (.cells #[.int .i64 (u : Int)] 3)) = .ok v' W' ∧ On N (L a v ++ [u]) v' W' ∧ W.drew.grownBy W' q.ownBlock ∧ (v'.ownBlock = q.ownBlock ∨ v'.ownBlock = some (W.drew.heap.size + 1))) ∧
      (∀ W3 : World, W.drew.grownBy W3 q.ownBlock → (W3.cell? ⟨x, a, none⟩ = some (.slice (some ⟨F a, 0, none⟩) n n) ∧ W3.cell? ⟨F a, v, none⟩ = some q) ∧ W3.frozen? ⟨F a, v, none⟩ = false) ∧
      (∀ (W3 : World) (v3 : Value), On N (L a v ++ [u]) v3 W3 → W.drew.grownBy W3 q.ownBlock → (v3.ownBlock = q.ownBlock ∨ v3.ownBlock = some (W.drew.heap.size + 1)) →
        (∃ vs', GD w n x xt FB N F tv ts L' vs' fb (W3.setCell ⟨F a, v, none⟩ v3)) ∧ KpG A N (fsG F) i W (W3.setCell ⟨F a, v, none⟩ v3) ∧ KeepsOthers W (W3.setCell ⟨F a, v, none⟩ v3) ∧ ∀ (k : Nat) (o : Obj), k < N → k ≠ F a → W.heap[k]? = some o → (W3.setCell ⟨F a, v, none⟩ v3).heap[k]? = some o) := by
  have hd := h.drew
  have hro := hd.g.rows a v ha hv
  have hvl : v < (vs a).length := by rw [h.g.len a ha]; exact hv
  have cx : ∀ {X : World}, X.heap[x]? = some (.cells (gV n FB F) 58 (0, 0)) → X.cell? ⟨x, a, none⟩ = some (.slice (some ⟨F a, 0, none⟩) n n) := fun hX => by
    match a, ha with
    | 0, _ => exact cell_of_obj hX rfl
    | 1, _ => exact cell_of_obj hX rfl
    | 2, _ => exact cell_of_obj hX rfl
  have cf : ∀ {X : World}, X.heap[F a]? = some (.cells (vs a).toArray 38 (0, 0)) → X.cell? ⟨F a, v, none⟩ = some ((vs a).getD v undef) := fun hX => cell_of_obj hX (by rw [List.getElem?_toArray]; exact vs_at hvl)
  obtain ⟨aq, cq, eq⟩ := gown_form hro
  refine ⟨(vs a).getD v undef, ⟨aq, cq, eq⟩, ⟨cx hd.bx, cf (hd.g.f a ha)⟩, on_app_at hro hd.g.sz (by omega) u ty, fun W3 hg => ?_, fun W3 v3 k1 k2 k3 => ?_⟩
  · have low : ∀ {k : Nat} {o : Obj}, k < N → W.drew.heap[k]? = some o → W3.heap[k]? = some o := fun hk ho => (hg.block _ (Array.getElem?_eq_some_iff.1 ho).1 fun e => by have := own_base hro _ e.symm; omega).trans ho
    have hf := low (by have := hp.f a ha; have := hp.an; omega) (hd.g.f a ha)
    exact ⟨⟨cx (low (by have := hp.px; have := hp.an; omega) hd.bx), cf hf⟩, Lib.frozen_of_heap hf v⟩
  · obtain ⟨g1, g2, g3⟩ := hd.next hp ha hv hNi k1 k2 k3 e1 e2
    refine ⟨⟨_, g1⟩, g2.undrew, KeepsOthers.undrew g3, fun k o hk hka ho => ?_⟩
    refine (heap_setCell_other W3 ⟨F a, v, none⟩ k v3 hka).trans ((k2.block k (Array.getElem?_eq_some_iff.1 ho).1 fun e => ?_).trans ho)
    have := own_base hro k e.symm
    omega
theorem GD.packB {w : World} {n x xt FB N A i : Nat} {F : Nat → Nat} {tv : Value} {ts : List Int} {L : Nat → Nat → List Nat} {vs : Nat → List Value} {fb : List Bool} {W : World} (h : GD w n x xt FB N F tv ts L vs fb W) (hp : GP n x xt FB N A F w.heap.size tv) {v : Nat} {b0 : Bool} (hb : fb[v]? = some b0) (hNi : N ≤ i) :
    (W.drew.cell? ⟨x, 3, none⟩ = some (.slice (some ⟨FB, 0, none⟩) n n) ∧ W.drew.cell? ⟨FB, v, none⟩ = some (.bool b0)) ∧ W.drew.frozen? ⟨FB, v, none⟩ = false ∧
      ∀ c, GD w n x xt FB N F tv ts L vs (fb.set v c) (W.drew.setCell ⟨FB, v, none⟩ (.bool c)) ∧ KpG A N (fsG F) i W (W.drew.setCell ⟨FB, v, none⟩ (.bool c)) ∧ KeepsOthers W (W.drew.setCell ⟨FB, v, none⟩ (.bool c)) ∧ ∀ (k : Nat) (o : Obj), k ≠ FB → W.heap[k]? = some o → (W.drew.setCell ⟨FB, v, none⟩ (.bool c)).heap[k]? = some o := by
  obtain ⟨g', e', d0, _, _⟩ := ob_at h.drew.fr hb
  cases e'
  refine ⟨⟨cell_of_obj h.drew.bx rfl, d0⟩, World.ownsRow.frozenAt (by have := h.drew.fr; unfold Ob at this; rw [h.fl] at this; exact this) v, fun c => ?_⟩
  obtain ⟨g1, g2, g3⟩ := h.drew.putB hp hNi v c
  exact ⟨g1, g2.undrew, KeepsOthers.undrew g3, fun k o hk ho => (heap_setCell_other W.drew ⟨FB, v, none⟩ k (.bool c) hk).trans ho⟩
/-- What the rows hold behind so many edges; and in the midst of one. -/
noncomputable def Lg (l : List Is) (pre : List (Nat × Nat)) (a j : Nat) : List Nat := if a = 0 then intL pre j else if a = 1 then intL (bacE l pre) j else outL (ahdE l pre) j
noncomputable def Lm (l : List Is) (pre : List (Nat × Nat)) (x : Nat × Nat) (a j : Nat) : List Nat := if a = 0 then intL (pre ++ [x]) j else Lg l pre a j
noncomputable def fbL (l : List Is) (n : Nat) (pre : List (Nat × Nat)) : List Bool := (List.range n).map (abvB l pre)
theorem lm_one (l : List Is) (pre : List (Nat × Nat)) (u v : Nat) : Lm l pre (u, v) 0 v = Lg l pre 0 v ++ [u] := by unfold Lm Lg; rw [if_pos rfl, if_pos rfl, intL_snoc, if_pos rfl]
theorem lm_other (l : List Is) (pre : List (Nat × Nat)) (u v b j : Nat) (h : ¬ (b = 0 ∧ j = v)) : Lm l pre (u, v) b j = Lg l pre b j := by
  unfold Lm
  by_cases e : b = 0
  · rw [if_pos e, intL_snoc, if_neg (fun e2 => h ⟨e, e2.symm⟩)]; unfold Lg; rw [if_pos e]
  · rw [if_neg e]
theorem lb_one (l : List Is) (pre : List (Nat × Nat)) (u v : Nat) (hd : pD (Dm l v u) = true) : Lg l (pre ++ [(u, v)]) 1 v = Lm l pre (u, v) 1 v ++ [u] := by
  unfold Lm Lg
  simp only [show ¬ (1 = 0) by decide, if_false, if_true]
  rw [bacE_snoc, if_pos hd, intL_snoc, if_pos rfl]
theorem lb_other (l : List Is) (pre : List (Nat × Nat)) (u v b j : Nat) (hd : pD (Dm l v u) = true) (h : ¬ (b = 1 ∧ j = v)) : Lg l (pre ++ [(u, v)]) b j = Lm l pre (u, v) b j := by
  unfold Lm Lg
  by_cases e : b = 0
  · simp [e]
  · by_cases e1 : b = 1
    · simp only [e1, show ¬ (1 = 0) by decide, if_false, if_true]
      rw [bacE_snoc, if_pos hd, intL_snoc, if_neg (fun e2 => h ⟨e1, e2.symm⟩)]
    · simp only [e, e1, if_false]
      rw [ahdE_snoc, if_pos hd]
theorem la_one (l : List Is) (pre : List (Nat × Nat)) (u v : Nat) (hd : pD (Dm l v u) = false) : Lg l (pre ++ [(u, v)]) 2 u = Lm l pre (u, v) 2 u ++ [v] := by
  unfold Lm Lg
  simp only [show ¬ (2 = 0) by decide, show ¬ (2 = 1) by decide, if_false]
  rw [ahdE_snoc, if_neg (by rw [hd]; decide), outL_snoc, if_pos rfl]
theorem la_other (l : List Is) (pre : List (Nat × Nat)) (u v b j : Nat) (hb : b < 3) (hd : pD (Dm l v u) = false) (h : ¬ (b = 2 ∧ j = u)) : Lg l (pre ++ [(u, v)]) b j = Lm l pre (u, v) b j := by
  unfold Lm Lg
  by_cases e : b = 0
  · simp [e]
  · by_cases e1 : b = 1
    · simp only [e1, show ¬ (1 = 0) by decide, if_false, if_true]
      rw [bacE_snoc, if_neg (by rw [hd]; decide)]
    · simp only [e, e1, if_false]
      rw [ahdE_snoc, if_neg (by rw [hd]; decide), outL_snoc, if_neg (fun e2 => h ⟨by omega, e2.symm⟩)]
theorem fbL_len (l : List Is) (n : Nat) (pre : List (Nat × Nat)) : (fbL l n pre).length = n := by simp [fbL]
theorem fbL_at (l : List Is) {n v : Nat} (pre : List (Nat × Nat)) (h : v < n) : (fbL l n pre)[v]? = some (abvB l pre v) := by
  unfold fbL; rw [List.getElem?_map, List.getElem?_range h]; rfl
theorem fbL_back (l : List Is) (n : Nat) (pre : List (Nat × Nat)) (u v : Nat) (hd : pD (Dm l v u) = true) : fbL l n (pre ++ [(u, v)]) = fbL l n pre := by
  unfold fbL abvB
  rw [ahdE_snoc, if_pos hd]
theorem fbL_set (l : List Is) (n : Nat) (pre : List (Nat × Nat)) (u v : Nat) (hv : v < n) (hd : pD (Dm l v u) = false) (c : Bool) (hc : c = (abvB l pre v || decide (v < u))) : (fbL l n pre).set v c = fbL l n (pre ++ [(u, v)]) := by
  refine List.ext_getElem? fun j => ?_
  by_cases hj : j < n
  · rw [List.getElem?_set, fbL_len, fbL_at l _ hj, fbL_at l _ hj]
    have e : abvB l (pre ++ [(u, v)]) j = (abvB l pre j || (decide (v = j) && decide (j < u))) := by
      unfold abvB
      rw [ahdE_snoc, if_neg (by rw [hd]; decide), List.any_append]
      simp only [List.any_cons, List.any_nil, Bool.or_false]
      congr 1
    rw [e]
    by_cases ej : v = j
    · subst ej; rw [if_pos rfl, if_pos hv, hc]; simp
    · rw [if_neg ej]; simp [ej]
  · rw [List.getElem?_eq_none (by rw [List.length_set, fbL_len]; omega), List.getElem?_eq_none (by rw [fbL_len]; omega)]
theorem lg_len (l : List Is) {pre : List (Nat × Nat)} {m : Nat} (hp : pre.length ≤ m) (a j : Nat) : (Lg l pre a j).length ≤ m := by
  unfold Lg
  have h1 := intL_len pre j
  have h2 := intL_len (bacE l pre) j
  have h3 := bacE_len l pre
  have h4 := outL_len (ahdE l pre) j
  have h5 := ahdE_len l pre
  split
  · omega
  · split <;> omega
theorem lm_len (l : List Is) {pre : List (Nat × Nat)} {m : Nat} (x : Nat × Nat) (hp : pre.length + 1 ≤ m) (a j : Nat) : (Lm l pre x a j).length ≤ m := by
  unfold Lm
  have h1 := intL_len (pre ++ [x]) j
  rw [List.length_append] at h1
  simp only [List.length_cons, List.length_nil] at h1
  split
  · omega
  · exact lg_len l (by omega) a j
theorem simple_field {P : Program} {o : Oper} (t : TypeId) (x : Operand) (k : Nat) (h : o.op = .fieldAddr t x k) : Simple P o := ⟨fun w ρ => by unfold Oper.about; rw [h], fun c e => (by rw [h] at e; cases e), fun w ρ => by unfold execOp; simp only [h]; exact plain_v _ _ _⟩
theorem simple_pick {P : Program} {o : Oper} (x y z : Operand) (h : o.op = .pick x y z) : Simple P o := ⟨fun w ρ => by unfold Oper.about; rw [h], fun c e => (by rw [h] at e; cases e), fun w ρ => by
  unfold execOp
  simp only [h]
  rw [Sem.run_bind]
  cases (asBool (ρ x)).run P w <;> trivial⟩
end Go.Proofs.YtgiokognngllcaaDoor
