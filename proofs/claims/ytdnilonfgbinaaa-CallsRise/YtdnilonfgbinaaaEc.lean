/- The document's own copies: modules without addresses; a module. -/
import Derived.Test.YtdnilonfgbinaaaEb
namespace Go.Proofs.Ytdnilonfgbinaaa
open Go.RowKit Go.Lib Go.Sort

/-- Without addresses. -/
def Fn.er (f : Fn) : Fn := { f with pa := none, pc := 0, ca := none, cc := 0 }
def Mo.er (m : Mo) : Mo := ⟨none, 0, m.ths, none, 0, m.funcs.map Fn.er⟩
def OwnF (W : World) (N : Nat) (g : Fn) : Prop := W.ownsRow N 73 2 (.slice g.pa g.params.length g.pc) g.params.length (g.params.flatMap spC) ∧ W.ownsRow N 44 5 (.slice g.ca g.code.length g.cc) g.code.length (g.code.flatMap Is.cells)
theorem OwnF.stay {W W' : World} {N : Nat} {g : Fn} (h : OwnF W N g) (hb : Below W.heap.size W W') : OwnF W' N g := ⟨own_stay h.1 hb, own_stay h.2 hb⟩
theorem OwnF.grown {W W' : World} {N : Nat} {g : Fn} {n : Nat} {v : Value} {xs : List Value} (h : OwnF W N g) (hv : W.ownsRow N 42 5 v n xs) (hg : W.grownBy W' v.ownBlock) : OwnF W' N g := ⟨h.1.kept hg (own_ne h.1 hv (by decide)), h.2.kept hg (own_ne h.2 hv (by decide))⟩
theorem OwnF.set {W : World} {N : Nat} {g : Fn} {b : Nat} {cs : Array Value} {fz : Nat × Nat} (h : OwnF W N g) (hb : W.heap[b]? = some (.cells cs 25 fz)) (i : Nat) (u : Value) : OwnF (W.setCell ⟨b, i, none⟩ u) N g := ⟨own_set h.1 hb (by decide) i u, own_set h.2 hb (by decide) i u⟩
theorem OwnF.in {W w : World} {N : Nat} {g f : Fn} (h : OwnF W N g) (he : g.er = f.er) (hf : f.In w) : g.In W := by
  obtain ⟨n1, _, _, p1, r1, w1, _, _, c1⟩ := g
  obtain ⟨n2, _, _, p2, r2, w2, _, _, c2⟩ := f
  simp only [Fn.er, Fn.mk.injEq] at he
  obtain ⟨rfl, _, _, rfl, rfl, rfl, _, _, rfl⟩ := he
  obtain ⟨f1, f2, f3, f4, f5, f6, f7⟩ := hf
  exact ⟨f1, f2, f3, ⟨f4.1, own_row h.1 (fun _ => rfl) (by omega)⟩, f5, ⟨f6.1, own_row h.2 (fun _ => rfl) (by omega)⟩, f7⟩
theorem Cpd.own {W : World} {N : Nat} {g f : Fn} (h : Cpd W N g f) : OwnF W N g ∧ g.er = f.er := by
  obtain ⟨h1, h2, h3, h4, h5, h6, h7⟩ := h
  exact ⟨⟨h6, h7⟩, by unfold Fn.er; rw [h1, h2, h3, h4, h5]⟩
theorem OwnF.low {W : World} {N N' : Nat} {g : Fn} (h : OwnF W N g) (hN : N' ≤ N) : OwnF W N' g := ⟨own_mono h.1 hN, own_mono h.2 hN⟩
theorem grown_other {W W' : World} {N n sz : Nat} {T T' : TypeId} {v : Value} {xs : List Value} {b : Nat} {cs : Array Value} {fz : Nat × Nat} (h : W.ownsRow N T sz v n xs) (hg : W.grownBy W' v.ownBlock) (hb : W.heap[b]? = some (.cells cs T' fz)) (hT : T ≠ T') : W'.heap[b]? = some (.cells cs T' fz) := by
  refine (hg.block b (Array.getElem?_eq_some_iff.1 hb).1 (fun e => ?_)).trans hb
  rcases h.2 with ⟨rfl, _⟩ | ⟨g, cap, cur, rfl, h1, h2, h3⟩
  · simp [Value.ownBlock] at e
  · have : b = g := by simpa [Value.ownBlock] using e
    subst this
    rw [h2] at hb
    simp at hb
    exact hT hb.2.1
theorem one_fn (g : Fn) : ∀ u ∈ g.cells, u.oneCell' = true := by
  intro u hu
  simp [Fn.cells] at hu
  rcases hu with rfl | rfl | rfl | rfl | rfl <;> rfl
/-- What the loop holds: where the boxes lie, the row of functions, and that all stand for themselves. -/
structure CpI (w W : World) (G : Nat) (m : Mo) (a1 : Option Addr) (c1 : Nat) (gs : List Fn) (v : Value) (j : Nat) : Prop where
  bm : W.heap[w.heap.size]? = some (.cells #[.slice m.ta m.ths.length m.tc, .slice m.fa m.funcs.length m.fc] 25)
  br : W.heap[w.heap.size + 1]? = some (.cells #[.slice none 0 0, .slice none 0 0] 25)
  bo : W.heap[G]? = some (.cells #[.slice a1 m.ths.length c1, v] 25)
  ot : W.ownsRow w.heap.size 2 1 (.slice a1 m.ths.length c1) m.ths.length (m.ths.flatMap thC)
  of : W.ownsRow w.heap.size 42 5 v j (gs.flatMap Fn.cells)
  hl : gs.length = j
  he : gs.map Fn.er = (m.funcs.take j).map Fn.er
  hg : ∀ g ∈ gs, OwnF W w.heap.size g
  hb : Below w.heap.size w W
theorem CpI.stay {w W W' : World} {G : Nat} {m : Mo} {a1 : Option Addr} {c1 : Nat} {gs : List Fn} {v : Value} {j : Nat} (h : CpI w W G m a1 c1 gs v j) (hb : Below W.heap.size W W') : CpI w W' G m a1 c1 gs v j :=
  ⟨(hb.block _ (Array.getElem?_eq_some_iff.1 h.bm).1).trans h.bm, (hb.block _ (Array.getElem?_eq_some_iff.1 h.br).1).trans h.br, (hb.block _ (Array.getElem?_eq_some_iff.1 h.bo).1).trans h.bo, own_stay h.ot hb, own_stay h.of hb, h.hl, h.he, fun g hg => (h.hg g hg).stay hb, Below.on h.hb hb⟩
/-- One function more. -/
theorem CpI.next {w W W' : World} {G : Nat} {m : Mo} {a1 : Option Addr} {c1 : Nat} {gs : List Fn} {v v' : Value} {j : Nat} {g f : Fn} (h : CpI w W G m a1 c1 gs v j) (hf : m.funcs[j]? = some f) (hg : OwnF W w.heap.size g) (he : g.er = f.er) (hG : w.heap.size ≤ G) (hGm : G ≠ w.heap.size) (hGr : G ≠ w.heap.size + 1)
    (ho : W'.ownsRow w.heap.size 42 5 v' (j + 1) (gs.flatMap Fn.cells ++ g.cells)) (hgr : W.grownBy W' v.ownBlock) :
    W'.heap[G]? = some (.cells #[.slice a1 m.ths.length c1, v] 25) ∧ CpI w (W'.setCell ⟨G, 1, none⟩ v') G m a1 c1 (gs ++ [g]) v' (j + 1) := by
  have bo := grown_other h.of hgr h.bo (by decide)
  refine ⟨bo, ⟨?_, ?_, ?_, ?_, ?_, ?_, ?_, ?_, ?_⟩⟩
  · exact (Below.heap_setCell _ _ _ _ hGm.symm).trans (grown_other h.of hgr h.bm (by decide))
  · exact (Below.heap_setCell _ _ _ _ hGr.symm).trans (grown_other h.of hgr h.br (by decide))
  · have := heap_setCell_same W' G 1 _ _ v' bo
    simpa using this
  · exact own_set (h.ot.kept hgr (own_ne h.ot h.of (by decide))) bo (by decide) _ _
  · rw [List.flatMap_append, show [g].flatMap Fn.cells = g.cells by simp]
    exact own_set ho bo (by decide) _ _
  · simp [h.hl]
  · have := (List.getElem?_eq_some_iff.1 hf)
    rw [List.map_append, h.he, List.take_add_one, hf]
    simp [he]
  · intro g' hg'
    rcases List.mem_append.1 hg' with h1 | h1
    · exact ((h.hg g' h1).grown h.of hgr).set bo _ _
    · rw [List.mem_singleton.1 h1]; exact (hg.grown h.of hgr).set bo _ _
  · exact (h.hb.grown hgr h.hb.size (fun k hk => own_base h.of k hk)).setCell hG _
theorem CpI.shut {w W W' : World} {G : Nat} {m : Mo} {a1 : Option Addr} {c1 : Nat} {gs : List Fn} {av : Option Addr} {cv : Nat} (h : CpI w W G m a1 c1 gs (.slice av m.funcs.length cv) m.funcs.length) (hm : m.In w) (hk : ∀ k, k ≠ w.heap.size + 1 → W'.heap[k]? = W.heap[k]?) : Mo.In W' ⟨a1, c1, m.ths, av, cv, gs⟩ ∧ Mo.er ⟨a1, c1, m.ths, av, cv, gs⟩ = m.er := by
  have he : gs.map Fn.er = m.funcs.map Fn.er := by rw [h.he, List.take_length]
  refine ⟨⟨⟨hm.1.1, own_row (own_put h.ot h.br (by decide) hk) (fun _ => rfl) (by omega)⟩, hm.2.1, ⟨?_, ?_⟩, fun g hg => ?_⟩, ?_⟩
  · show gs.length * 80 ≤ _
    rw [h.hl]; exact hm.2.2.1.1
  · exact own_row (own_put h.of h.br (by decide) hk) (fun _ => rfl) (by omega)
  · have : g.er ∈ m.funcs.map Fn.er := by rw [← he]; exact List.mem_map_of_mem hg
    obtain ⟨f, hf, e⟩ := List.mem_map.1 this
    exact (OwnF.in ⟨own_put (h.hg g hg).1 h.br (by decide) hk, own_put (h.hg g hg).2 h.br (by decide) hk⟩ e.symm (hm.2.2.2 f hf))
  · unfold Mo.er; simp only [he]
theorem set2 (W : World) (b : Nat) (v0 v1 : Value) : ∀ k, k ≠ b → ((W.setCell ⟨b, 0, none⟩ v0).setCell ⟨b, 1, none⟩ v1).heap[k]? = W.heap[k]? := fun k hk => by
  rw [Below.heap_setCell _ _ _ _ hk, Below.heap_setCell _ _ _ _ hk]
end Go.Proofs.Ytdnilonfgbinaaa
