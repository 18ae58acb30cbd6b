/- PackEncodes. -/
import Derived.Test.YtfamomjgjamnoaaDoorLb
import Derived.Test.YtfamomjgjamnoaaDoorUb
namespace Go.Proofs.YtfamomjgjamnoaaDoor
open Go.RowKit Go.Sort

theorem moB_er (m : Mo) : moB m.er = moB m := by
  unfold moB Mo.er
  simp only [List.flatMap_map, List.length_map]
  rfl
theorem encB_same {p q : Mo} (h : p.er = q.er) : encB p = encB q := by
  unfold encB
  rw [mayZ_same h, ← moB_er p, h, moB_er]
/-- A byte of a row of the call's own is written. -/
theorem own_set1 {W : World} {N n : Nat} {g cap : Nat} {xs : List Value} (h : W.ownsRow N 5 1 (.slice (some ⟨g, 0, none⟩) n cap) n xs) (i : Nat) (u : Value) : (W.setCell ⟨g, i, none⟩ u).ownsRow N 5 1 (.slice (some ⟨g, 0, none⟩) n cap) n (xs.set i u) := by
  refine ⟨by rw [List.length_set]; exact h.1, ?_⟩
  rcases h.2 with ⟨e, _⟩ | ⟨g', cap', cur, e, h1, h2, h3, h4, h5, h6⟩
  · cases e
  · injection e with e1 _ e3
    injection e1 with e1
    injection e1 with e1
    subst e1; subst e3
    refine .inr ⟨g, cap, cur.setIfInBounds i u, rfl, h1, ?_, h3, h4, by simp [h5], ?_⟩
    · exact heap_setCell_same W g i _ _ u h2
    · rw [Array.toList_setIfInBounds, List.take_set, h6]
/-- What the loop that writes over leaves as it was. -/
theorem Gr.set {N : Nat} {W W' : World} (h : Gr N W W') {g : Nat} {cs : Array Value} {fz : Nat × Nat} (hg : W'.heap[g]? = some (.cells cs 5 fz)) (hN : N ≤ g) (j : Nat) (u : Value) : Gr N W (W'.setCell ⟨g, j, none⟩ u) :=
  ⟨h.b.setCell hN _, fun i cs' T fz' hi hT => by
    have h1 := h.o i cs' T fz' hi hT
    refine (Below.heap_setCell _ _ _ _ (fun e => ?_)).trans h1
    simp only at e
    subst e
    rw [h1] at hg
    injection hg with hg
    injection hg with _ hg _
    exact hT hg⟩
theorem u8_set (l : Bt) (i : Nat) (b : UInt8) : (u8C l).set i (u8V b) = u8C (l.set i b) := by
  unfold u8C; rw [List.map_set]
theorem own_blk {N : Nat} {l : Bt} {a : Option Addr} {c : Nat} {W : World} (h : Ob N l (.slice a l.length c) W) {i : Nat} (hi : i < l.length) : ∃ g cur, a = some ⟨g, 0, none⟩ ∧ N ≤ g ∧ W.heap[g]? = some (.cells cur 5) ∧ W.cell? ⟨g, i, none⟩ = some (.int .u8 (l[i].toNat : Int)) := by
  rcases h.2 with ⟨e, h0⟩ | ⟨g, cap, cur, e, h1, h2, h3, h4, h5, h6⟩
  · omega
  · injection e with e1 _ e3
    subst e1
    refine ⟨g, cur, rfl, h1, h2, ?_⟩
    have hc := h.cells (g := g) rfl i (u8V l[i]) (by simp [u8C, hi])
    rw [Addr.add_lit, Nat.zero_add] at hc
    exact hc
/-- A row of the call's own stays where a block below it is written, or grows. -/
theorem own_above {W : World} {N n sz g : Nat} {T : TypeId} {v : Value} {xs : List Value} (h : W.ownsRow N T sz v n xs) (hg : g < N) (i : Nat) (u : Value) : (W.setCell ⟨g, i, none⟩ u).ownsRow N T sz v n xs := by
  refine ⟨h.1, ?_⟩
  rcases h.2 with h0 | ⟨k, cap, cur, rfl, h1, h2, h3⟩
  · exact .inl h0
  · exact .inr ⟨k, cap, cur, rfl, h1, (Below.heap_setCell _ _ _ _ (by simp only; omega)).trans h2, h3⟩
theorem own_grow {W W' : World} {N n sz : Nat} {T : TypeId} {v : Value} {xs : List Value} {o : Option Nat} (h : W.ownsRow N T sz v n xs) (ho : ∀ g, o = some g → g < N) (hg : W.grownBy W' o) : W'.ownsRow N T sz v n xs := by
  refine ⟨h.1, ?_⟩
  rcases h.2 with h0 | ⟨k, cap, cur, rfl, h1, h2, h3⟩
  · exact .inl h0
  · exact .inr ⟨k, cap, cur, rfl, h1, (hg.block _ (Array.getElem?_eq_some_iff.1 h2).1 (fun e => by have := ho _ e.symm; omega)).trans h2, h3⟩
theorem ob_grow {N : Nat} {acc l : Bt} {v : Value} {W : World} (h : Ob N acc v W) (hb : acc.length + l.length ≤ 140737488355328) (hN : N ≤ W.heap.size) (ty : TypeId) (ad : Option Addr) (c : Nat) (hnone : ad = none → l.length = 0) (hc : ∀ a, ad = some a → ∀ j u, (u8C l)[j]? = some u → W.cell? (a.add j) = some u) :
    ∃ v' W', (Builtin.append_ #[27, 27] ty #[v, .slice ad l.length c]).run Tryd.prog W = .ok v' W' ∧ Ob N (acc ++ l) v' W' ∧ Gr N W W' ∧ W.grownBy W' v.ownBlock := by
  obtain ⟨i0, hi, hz0, hz1, hz2⟩ := info_parts Tryd.infoByte
  obtain ⟨v', W', hr, h2, h3⟩ := run_append_ownS (P := Tryd.prog) W N 27 ty 5 i0 (.int .u8 0) 1 1 Tryd.underlying27 hi hz0 hz1 hz2 rfl (by decide) v _ _ h ad l.length c (u8C l) (by rw [u8C_len, Nat.mul_one]) hnone hc (one_u8 l) (by unfold maxLen; omega) (by omega) hN
  refine ⟨v', W', hr, ?_, Gr.of h hN h3, h3⟩
  unfold Ob
  rw [List.length_append, u8C_app]
  exact h2
/-- What the law holds while it writes over what Encode told: the boxes, the other bytes, what lay there before. -/
structure EnI (W2 : World) (N4 XM XQ F1 F2 : Nat) (m q : Mo) (z : Int × Int × Int) (t : Bt) (vc : Value) (W : World) : Prop where
  b : Below W2.heap.size W2 W
  xm : W.heap[XM]? = some (.cells (moC m) 25)
  xq : W.heap[XQ]? = some (.cells (moC q) 25)
  f1 : W.heap[F1]? = some (.cells #[.int .i64 z.1, .int .i64 z.2.1, .int .i64 z.2.2] 30)
  f2 : W.heap[F2]? = some (.cells #[.int .i64 z.1, .int .i64 z.2.1, .int .i64 z.2.2] 30)
  c : Ob N4 t vc W
theorem EnI.stay {W2 : World} {N4 XM XQ F1 F2 : Nat} {m q : Mo} {z : Int × Int × Int} {t : Bt} {vc : Value} {W W' : World} (h : EnI W2 N4 XM XQ F1 F2 m q z t vc W) (hb : Below W.heap.size W W') : EnI W2 N4 XM XQ F1 F2 m q z t vc W' :=
  ⟨h.b.trans (hb.mono h.b.size), blk_stay h.xm hb, blk_stay h.xq hb, blk_stay h.f1 hb, blk_stay h.f2 hb, own_stay h.c hb⟩
theorem EnI.set {W2 : World} {N4 XM XQ F1 F2 : Nat} {m q : Mo} {z : Int × Int × Int} {t : Bt} {vc : Value} {W : World} (h : EnI W2 N4 XM XQ F1 F2 m q z t vc W) {g : Nat} {cs : Array Value} {fz : Nat × Nat} (hg : W.heap[g]? = some (.cells cs 5 fz)) (hN : W2.heap.size ≤ g) (h4 : g < N4) (j : Nat) (u : Value) : EnI W2 N4 XM XQ F1 F2 m q z t vc (W.setCell ⟨g, j, none⟩ u) := by
  have k := (Gr.refl W2.heap.size W).set hg hN j u
  exact ⟨h.b.trans k.b, k.o _ _ _ _ h.xm (by decide), k.o _ _ _ _ h.xq (by decide), k.o _ _ _ _ h.f1 (by decide), k.o _ _ _ _ h.f2 (by decide), own_above h.c h4 _ _⟩
theorem EnI.grown {W2 : World} {N4 XM XQ F1 F2 : Nat} {m q : Mo} {z : Int × Int × Int} {t : Bt} {vc : Value} {W W' : World} (h : EnI W2 N4 XM XQ F1 F2 m q z t vc W) (k : Gr W2.heap.size W W') {o : Option Nat} (ho : ∀ g, o = some g → g < N4) (hg : W.grownBy W' o) : EnI W2 N4 XM XQ F1 F2 m q z t vc W' :=
  ⟨h.b.trans k.b, k.o _ _ _ _ h.xm (by decide), k.o _ _ _ _ h.xq (by decide), k.o _ _ _ _ h.f1 (by decide), k.o _ _ _ _ h.f2 (by decide), own_grow h.c ho hg⟩
end Go.Proofs.YtfamomjgjamnoaaDoor
