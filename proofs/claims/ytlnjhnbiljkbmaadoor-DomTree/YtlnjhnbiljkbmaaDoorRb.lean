/- The document's own Tree, walked. -/
import Derived.Test.YtlnjhnbiljkbmaaDoorRa
namespace Go.Proofs.YtlnjhnbiljkbmaaDoor
open Go.RowKit Go.Shelf

/-- All but two blocks stay. -/
structure K2 (M R : Nat) (W W' : World) : Prop where
  os : W'.os = W.os
  tape : W'.tape = W.tape
  output : W'.output = W.output
  size : W.heap.size ≤ W'.heap.size
  block : ∀ k, k < W.heap.size → k ≠ M → k ≠ R → W'.heap[k]? = W.heap[k]?
theorem K2.refl (M R : Nat) (W : World) : K2 M R W W := ⟨rfl, rfl, rfl, Nat.le_refl _, fun _ _ _ _ => rfl⟩
theorem K2.put {M R : Nat} {W W' : World} (h : K2 M R W W') {b : Nat} (hb : b = M ∨ b = R) (i : Nat) (v : Value) : K2 M R W (W'.setCell ⟨b, i, none⟩ v) :=
  ⟨h.os, h.tape, h.output, by simp only [World.setCell, Array.size_modify]; exact h.size, fun k hk h1 h2 => (heap_setCell_other W' ⟨b, i, none⟩ k v (show k ≠ b by rcases hb with rfl | rfl <;> assumption)).trans (h.block k hk h1 h2)⟩
theorem K2.below {M R N : Nat} {W W' : World} (h : K2 M R W W') (h1 : N ≤ M) (h2 : N ≤ R) (hN : N ≤ W.heap.size) : Below N W W' := ⟨h.os, h.tape, h.output, h.size, fun k hk => h.block k (by omega) (by omega) (by omega)⟩
theorem own_k2 {M R N n sz : Nat} {T : TypeId} {v : Value} {xs : List Value} {W W' : World} (h : W.ownsRow N T sz v n xs) (hk : K2 M R W W') (h1 : v.ownBlock ≠ some M) (h2 : v.ownBlock ≠ some R) : W'.ownsRow N T sz v n xs := by
  refine ⟨h.1, ?_⟩
  rcases h.2 with h0 | ⟨g, cap, cur, rfl, a1, a2, a3⟩
  · exact .inl h0
  · exact .inr ⟨g, cap, cur, rfl, a1, (hk.block g (Array.getElem?_eq_some_iff.1 a2).1 (fun e => h1 (by rw [e]; rfl)) (fun e => h2 (by rw [e]; rfl))).trans a2, a3⟩
theorem own_ty {W : World} {F N n sz : Nat} {cs : Array Value} {T T' : TypeId} {fz : Nat × Nat} {v : Value} {xs : List Value} (hf : W.heap[F]? = some (.cells cs T' fz)) (h : W.ownsRow N T sz v n xs) (hne : T ≠ T') : v.ownBlock ≠ some F := fun e => by
  rcases h.2 with ⟨rfl, _⟩ | ⟨g, cap, cur, rfl, _, hg, _⟩
  · cases e
  · cases e
    rw [hf] at hg
    injection hg with hg
    injection hg with _ hg
    exact hne hg.symm
def outA (n a : Nat) : List Int := List.replicate a (-1) ++ List.replicate (n - a) 0
/-- What the first loop holds. -/
structure TS (l : List Is) (W1 : World) (n O M a : Nat) (vr : Value) (vals : List Value) (W : World) : Prop where
  o : Oi W1.heap.size (outA n a) (.slice (some ⟨O, 0, none⟩) n n) W
  m : On W1.heap.size (manL l n a) (.slice (some ⟨M, 0, none⟩) n n) W
  q : W.ownsRow W1.heap.size 38 1 vr a vals
  r : ∀ j, j < a → Ob W1.heap.size (rowL l n j) (vals.getD j undef) W
  b : Below W1.heap.size W1 W
theorem outA_len {n a : Nat} (h : a ≤ n) : (outA n a).length = n := by simp [outA]; omega
theorem outA_succ {n a : Nat} (h : a < n) : (outA n a).set a (-1) = outA n (a + 1) := by
  have := grow_set (List.replicate a (-1 : Int)) 0 (-1) (n := n) (j := a) (by simp) h
  unfold outA
  rw [this]
  congr 1
  rw [List.replicate_succ']
/-- The first step of a round: out's entry, and a row of its own. -/
theorem TS.begin {l : List Is} {W1 W : World} {n O M a : Nat} {vr : Value} {vals : List Value} (h : TS l W1 n O M a vr vals W) (ha : a < n) (hn : n ≤ 1024) (hOM : O ≠ M) (hO : W1.heap.size ≤ O) : ∃ Y, Y = (W.setCell ⟨O, a, none⟩ (.int .i64 (-1))).alloc (.cells (mkB n) 4) ∧
    Oi W1.heap.size (outA n (a + 1)) (.slice (some ⟨O, 0, none⟩) n n) Y ∧ On W1.heap.size (manL l n a) (.slice (some ⟨M, 0, none⟩) n n) Y ∧ Y.ownsRow W1.heap.size 38 1 vr a vals ∧ (∀ j, j < a → Ob W1.heap.size (rowL l n j) (vals.getD j undef) Y) ∧ Below W1.heap.size W1 Y ∧ Ob W1.heap.size (rowP l n a 0) (.slice (some ⟨W.heap.size, 0, none⟩) n n) Y ∧ Y.heap.size = W.heap.size + 1 := by
  obtain ⟨X, hX⟩ : ∃ X, X = W.setCell ⟨O, a, none⟩ (.int .i64 (-1)) := ⟨_, rfl⟩
  have hs : X.heap.size = W.heap.size := by rw [hX]; simp
  have hg : W.grownBy X (some O) := by
    rw [hX]
    exact ⟨rfl, rfl, rfl, by simp, fun k _ hk => heap_setCell_other W ⟨O, a, none⟩ k _ fun e => hk (by rw [e])⟩
  obtain ⟨cur, hcur, _⟩ := own_blk h.o
  have o1 : Oi W1.heap.size (outA n (a + 1)) (.slice (some ⟨O, 0, none⟩) n n) X := by
    rw [hX, ← outA_succ ha]; exact oi_put h.o a (-1)
  have m1 : On W1.heap.size (manL l n a) (.slice (some ⟨M, 0, none⟩) n n) X := h.m.kept hg (.inr fun e => hOM (by injection e with e; exact e.symm))
  have q1 := h.q.kept hg (.inr (own_ty hcur h.q (by decide)))
  have r1 : ∀ j, j < a → Ob W1.heap.size (rowL l n j) (vals.getD j undef) X := fun j hj => (h.r j hj).kept hg (.inr (own_ty hcur (h.r j hj) (by decide)))
  have b1 : Below W1.heap.size W1 X := by rw [hX]; exact h.b.setCell hO _
  have bo := Below.one (Below.refl _ X) (.cells (mkB n) 4)
  refine ⟨_, rfl, ?_⟩
  rw [← hX]
  refine ⟨own_stay o1 bo, own_stay m1 bo, own_stay q1 bo, fun j hj => own_stay (r1 j hj) bo, Below.on b1 bo, ?_, by rw [World.size_alloc, hs]⟩
  rw [rowP_zero, ← hs]
  exact own_mono (own_mkB X n (by omega)) b1.size
/-- Behind the row that was filled, and its append. -/
theorem TS.finish {l : List Is} {W1 W : World} {n O M a R : Nat} {vr : Value} {vals : List Value} (o : Oi W1.heap.size (outA n (a + 1)) (.slice (some ⟨O, 0, none⟩) n n) W) (m : On W1.heap.size (manL l n (a + 1)) (.slice (some ⟨M, 0, none⟩) n n) W) (q : W.ownsRow W1.heap.size 38 1 vr a vals) (r : ∀ j, j < a → Ob W1.heap.size (rowL l n j) (vals.getD j undef) W) (b : Below W1.heap.size W1 W) (rw' : Ob W1.heap.size (rowL l n a) (.slice (some ⟨R, 0, none⟩) n n) W) (ha : a < n) (hn : n ≤ 1024) (ty : TypeId) :
    ∃ v' W', (Builtin.append_ #[58, 58] ty #[vr, .slice (some ⟨W.heap.size, 0, none⟩) 1 1]).run Tryd.prog (W.alloc (.cells #[.slice (some ⟨R, 0, none⟩) n n] 38)) = .ok v' W' ∧ TS l W1 n O M (a + 1) v' (vals ++ [.slice (some ⟨R, 0, none⟩) n n]) W' := by
  obtain ⟨v', W', h1, h2, h3⟩ := app_one (t := 58) Tryd.underlying58 (show (Tryd.prog.info? 38).map (fun i => (i.zero, i.size, i.bytes)) = some (some (.slice none 0 0), 1, 24) by kernel_rfl) rfl (by decide) q b.size (by unfold maxLen; omega) (by omega) #[.slice (some ⟨R, 0, none⟩) n n] rfl (by simp [Value.oneCell']) ty
  have hvl : vals.length = a := by have := q.1; omega
  have keep : ∀ {T : TypeId} {m : Nat} {p : Value} {xs : List Value}, T ≠ 38 → W.ownsRow W1.heap.size T 1 p m xs → W'.ownsRow W1.heap.size T 1 p m xs := fun {T m p xs} hT hp => hp.kept h3 (by
    rcases q.2 with ⟨e, _⟩ | ⟨g, cap, cur, e, _, hgb, _⟩
    · rw [e]
      cases hh : p.ownBlock with
      | none => exact .inl rfl
      | some k => exact .inr (by intro e2; cases e2)
    · rw [e]
      exact .inr (own_ty hgb hp hT))
  refine ⟨v', W', h1, keep (by decide) o, keep (by decide) m, h2, fun j hj => ?_, b.grown h3 b.size fun k e => own_base q k e⟩
  by_cases e : j < a
  · rw [List.getD_eq_getElem?_getD, List.getElem?_append_left (by omega), ← List.getD_eq_getElem?_getD]
    exact keep (by decide) (r j e)
  · obtain rfl : j = a := by omega
    rw [List.getD_eq_getElem?_getD, List.getElem?_append_right (by omega), hvl, Nat.sub_self]
    exact keep (by decide) rw'
end Go.Proofs.YtlnjhnbiljkbmaaDoor
