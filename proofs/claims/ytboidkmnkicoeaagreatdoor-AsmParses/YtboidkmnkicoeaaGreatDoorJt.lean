/- The document's own Parse: what has been read lies in memory. -/
import Derived.Test.YtboidkmnkicoeaaGreatDoorJs
import Derived.Test.YtboidkmnkicoeaaGreatDoorYo
namespace Go.Proofs.YtboidkmnkicoeaaGreatDoor
open Go.RowKit Go.Sort

/-- The lines of a function's instructions. -/
structure Pl where
  a : Option Addr
  c : Nat
  l : List Nat
abbrev plV (q : Pl) : Value := .slice q.a q.l.length q.c
def GB (g : Fn) : Prop := g.name.size ≤ 100000000 ∧ I64 g.regs ∧ I64 g.words ∧ g.params.length ≤ 100000000 ∧ (∀ p ∈ g.params, spOk p) ∧ g.code.length ≤ 100000000 ∧ ∀ x ∈ g.code, x.Ok
theorem GB.in {g : Fn} {W : World} {N : Nat} (h : GB g) (ho : OwnF W N g) : g.In W := by
  obtain ⟨h1, h2, h3, h4, h5, h6, h7⟩ := h
  exact ⟨by omega, h2, h3, ⟨by omega, own_row ho.1 (fun _ => rfl) (by omega)⟩, h5, ⟨by omega, own_row ho.2 (fun _ => rfl) (by omega)⟩, h7⟩
structure Rf (w : World) (ths : List Int) (gs : List Fn) (hs : List Nat) (qs : List Pl) (vt vf v7 v8 : Value) (B C : Nat) (W : World) : Prop where
  bl : Below w.heap.size w W
  zb : W.heap[w.heap.size]? = some (.cells #[.slice none 0 0, .slice none 0 0] 25)
  mb : W.heap[w.heap.size + 1]? = some (.cells #[vt, vf] 25)
  ot : W.ownsRow w.heap.size 2 1 vt ths.length (ths.flatMap thC)
  of : W.ownsRow w.heap.size 34 5 vf gs.length (gs.flatMap Fn.cells)
  oh : W.ownsRow w.heap.size 3 1 v7 hs.length (hs.map hC)
  op : W.ownsRow w.heap.size 40 1 v8 qs.length (qs.map plV)
  og : ∀ g ∈ gs, OwnF W w.heap.size g ∧ GB g
  oq : ∀ q ∈ qs, W.ownsRow w.heap.size 3 1 (plV q) q.l.length (q.l.map hC)
  nB : w.heap.size ≤ B ∧ B ≤ W.heap.size
  nC : w.heap.size ≤ C ∧ C ≤ W.heap.size
  sp : ∀ hd g, gs = hd ++ [g] → (∀ f ∈ hd, ∀ k, (codeV f).ownBlock = some k → k < B) ∧ W.ownsRow B 36 5 (codeV g) g.code.length (g.code.flatMap Is.cells)
  sq : ∀ hd q, qs = hd ++ [q] → (∀ f ∈ hd, ∀ k, (plV f).ownBlock = some k → k < C) ∧ W.ownsRow C 3 1 (plV q) q.l.length (q.l.map hC)
  s7 : ∀ q ∈ qs, ∀ k, v7.ownBlock = some k → (plV q).ownBlock ≠ some k
variable {w : World} {ths : List Int} {gs : List Fn} {hs : List Nat} {qs : List Pl} {vt vf v7 v8 : Value} {B C : Nat} {W W' : World}
/-- All rows stay. -/
theorem Rf.keep (h : Rf w ths gs hs qs vt vf v7 v8 B C W) (hb : Below w.heap.size w W') (hz : W.heap.size ≤ W'.heap.size)
    (hk : ∀ {T : TypeId} {M n sz : Nat} {v : Value} {xs : List Value}, T ≠ 57 → W.ownsRow M T sz v n xs → W'.ownsRow M T sz v n xs)
    (hm : ∀ {k : Nat} {cs : Array Value}, W.heap[k]? = some (.cells cs 25) → W'.heap[k]? = some (.cells cs 25)) : Rf w ths gs hs qs vt vf v7 v8 B C W' :=
  ⟨hb, hm h.zb, hm h.mb, hk (by decide) h.ot, hk (by decide) h.of, hk (by decide) h.oh, hk (by decide) h.op, fun g hg => ⟨⟨hk (by decide) (h.og g hg).1.1, hk (by decide) (h.og g hg).1.2⟩, (h.og g hg).2⟩, fun q hq => hk (by decide) (h.oq q hq),
   ⟨h.nB.1, Nat.le_trans h.nB.2 hz⟩, ⟨h.nC.1, Nat.le_trans h.nC.2 hz⟩, fun hd g e => ⟨(h.sp hd g e).1, hk (by decide) (h.sp hd g e).2⟩, fun hd q e => ⟨(h.sq hd q e).1, hk (by decide) (h.sq hd q e).2⟩, h.s7⟩
theorem Rf.stay (h : Rf w ths gs hs qs vt vf v7 v8 B C W) (hb : Below W.heap.size W W') : Rf w ths gs hs qs vt vf v7 v8 B C W' :=
  h.keep (Below.on h.bl hb) hb.size (fun _ hh => own_stay hh hb) (fun hh => (hb.block _ (Array.getElem?_eq_some_iff.1 hh).1).trans hh)
theorem own_only {R M n sz : Nat} {T T' : TypeId} {v : Value} {xs : List Value} {cs : Array Value} {fz : Nat × Nat} (h : W.ownsRow M T sz v n xs) (ho : OnlyB R W W') (hR : W.heap[R]? = some (.cells cs T' fz)) (hT : T ≠ T') : W'.ownsRow M T sz v n xs := by
  refine ⟨h.1, ?_⟩
  rcases h.2 with hn | ⟨g, cap, cur, rfl, hb, hg, rest⟩
  · exact .inl hn
  · refine .inr ⟨g, cap, cur, rfl, hb, ho.blk hg (fun e => ?_), rest⟩
    subst e
    rw [hR] at hg
    injection hg with hg
    injection hg with _ e2 _
    exact hT e2.symm
theorem Rf.only {R : Nat} {cs : Array Value} (h : Rf w ths gs hs qs vt vf v7 v8 B C W) (ho : OnlyB R W W') (hR : W.heap[R]? = some (.cells cs 57)) (hN : w.heap.size ≤ R) : Rf w ths gs hs qs vt vf v7 v8 B C W' :=
  h.keep (h.bl.trans (ho.below hN h.bl.size)) ho.size (fun hT hh => own_only hh ho hR hT) (fun {k cs'} hh => ho.blk hh (fun e => by subst e; rw [hR] at hh; injection hh with hh; injection hh with _ e2 _; cases e2))
/-- A row of one type has grown, and a cell of a block of another one is written. -/
theorem Rf.thr (h : Rf w ths gs hs qs vt vf v7 v8 B C W) (o : Obj) {z : Int} {v' : Value} (hg : (W.alloc o).grownBy W' vt.ownBlock) (ho : W'.ownsRow w.heap.size 2 1 v' (ths.length + 1) (ths.flatMap thC ++ [.int .i64 z])) :
    Rf w (ths ++ [z]) gs hs qs v' vf v7 v8 B C (W'.setCell ⟨w.heap.size + 1, 0, none⟩ v') ∧ W'.heap[w.heap.size + 1]? = some (.cells #[vt, vf] 25) ∧ ∀ (k : Nat) (cs : Array Value), W.heap[k]? = some (.cells cs 57) → (W'.setCell ⟨w.heap.size + 1, 0, none⟩ v').heap[k]? = some (.cells cs 57) := by
  have h1 := h.stay (Below.one (Below.refl _ W) o)
  have hmb := grown_other h1.ot hg h1.mb (by decide)
  have hk : ∀ {T : TypeId} {M n sz : Nat} {v : Value} {xs : List Value}, T ≠ 2 → T ≠ 25 → (W.alloc o).ownsRow M T sz v n xs → (W'.setCell ⟨w.heap.size + 1, 0, none⟩ v').ownsRow M T sz v n xs := fun hT hM hh => own_set (hh.kept hg (own_ne hh h1.ot hT)) hmb hM _ _
  have hsz : (W.alloc o).heap.size ≤ (W'.setCell ⟨w.heap.size + 1, 0, none⟩ v').heap.size := by have := hg.size; simpa [World.setCell] using this
  have hbl : Below w.heap.size w W' := h1.bl.grown hg h1.bl.size (fun k e => own_base h1.ot k e)
  refine ⟨⟨hbl.setCell (by simp only; omega) _, ?_, ?_, ?_, hk (by decide) (by decide) h1.of, hk (by decide) (by decide) h1.oh, hk (by decide) (by decide) h1.op, fun g hg' => ⟨⟨hk (by decide) (by decide) (h1.og g hg').1.1, hk (by decide) (by decide) (h1.og g hg').1.2⟩, (h1.og g hg').2⟩, fun q hq => hk (by decide) (by decide) (h1.oq q hq), ⟨h1.nB.1, Nat.le_trans h1.nB.2 hsz⟩, ⟨h1.nC.1, Nat.le_trans h1.nC.2 hsz⟩, fun hd g e => ⟨(h1.sp hd g e).1, hk (by decide) (by decide) (h1.sp hd g e).2⟩, fun hd q e => ⟨(h1.sq hd q e).1, hk (by decide) (by decide) (h1.sq hd q e).2⟩, h1.s7⟩, hmb, fun k cs hk' => ?_⟩
  · exact (Below.heap_setCell _ _ _ _ (by simp)).trans (grown_other h1.ot hg h1.zb (by decide))
  · have := heap_setCell_same W' (w.heap.size + 1) 0 _ _ v' hmb; simpa using this
  · rw [List.length_append, List.flatMap_append]
    exact own_set ho hmb (by decide) _ _
  · have h2 : (W.alloc o).heap[k]? = _ := ((Below.one (Below.refl _ W) o).block _ (Array.getElem?_eq_some_iff.1 hk').1).trans hk'
    have h3 := grown_other h1.ot hg h2 (by decide)
    refine (Below.heap_setCell _ _ _ _ (fun e => ?_)).trans h3
    simp only at e
    subst e
    rw [hmb] at h3
    injection h3 with h3
    injection h3 with _ e2 _
    cases e2
/-- A function more. -/
theorem Rf.fun_ (h : Rf w ths gs hs qs vt vf v7 v8 B C W) (o : Obj) {g : Fn} {v' : Value} (hgo : OwnF W w.heap.size g ∧ GB g) (hc : g.ca = none ∧ g.cc = 0 ∧ g.code = []) (hg : (W.alloc o).grownBy W' vf.ownBlock) (ho : W'.ownsRow w.heap.size 34 5 v' (gs.length + 1) (gs.flatMap Fn.cells ++ g.cells)) :
    Rf w ths (gs ++ [g]) hs qs vt v' v7 v8 W'.heap.size C (W'.setCell ⟨w.heap.size + 1, 1, none⟩ v') ∧ W'.heap[w.heap.size + 1]? = some (.cells #[vt, vf] 25) ∧ ∀ (k : Nat) (cs : Array Value), W.heap[k]? = some (.cells cs 57) → (W'.setCell ⟨w.heap.size + 1, 1, none⟩ v').heap[k]? = some (.cells cs 57) := by
  have h1 := h.stay (Below.one (Below.refl _ W) o)
  have hmb := grown_other h1.of hg h1.mb (by decide)
  have hk : ∀ {T : TypeId} {M n sz : Nat} {v : Value} {xs : List Value}, T ≠ 34 → T ≠ 25 → (W.alloc o).ownsRow M T sz v n xs → (W'.setCell ⟨w.heap.size + 1, 1, none⟩ v').ownsRow M T sz v n xs := fun hT hM hh => own_set (hh.kept hg (own_ne hh h1.of hT)) hmb hM _ _
  have hsz : (W.alloc o).heap.size ≤ (W'.setCell ⟨w.heap.size + 1, 1, none⟩ v').heap.size := by have := hg.size; simpa [World.setCell] using this
  have hsz2 : (W'.setCell ⟨w.heap.size + 1, 1, none⟩ v').heap.size = W'.heap.size := by simp [World.setCell]
  have hbl : Below w.heap.size w W' := h1.bl.grown hg h1.bl.size (fun k e => own_base h1.of k e)
  have hgs := hgo.1.stay (Below.one (Below.refl _ W) o)
  refine ⟨⟨hbl.setCell (by simp only; omega) _, ?_, ?_, hk (by decide) (by decide) h1.ot, ?_, hk (by decide) (by decide) h1.oh, hk (by decide) (by decide) h1.op, fun g' hg' => ?_, fun q hq => hk (by decide) (by decide) (h1.oq q hq), ⟨hbl.size, by rw [hsz2]; exact Nat.le_refl _⟩, ⟨h1.nC.1, Nat.le_trans h1.nC.2 hsz⟩, fun hd g' e => ?_, fun hd q e => ⟨(h1.sq hd q e).1, hk (by decide) (by decide) (h1.sq hd q e).2⟩, h1.s7⟩, hmb, fun k cs hk' => ?_⟩
  · exact (Below.heap_setCell _ _ _ _ (by simp)).trans (grown_other h1.of hg h1.zb (by decide))
  · have := heap_setCell_same W' (w.heap.size + 1) 1 _ _ v' hmb; simpa using this
  · rw [List.length_append, List.flatMap_append, show [g].flatMap Fn.cells = g.cells by simp]
    exact own_set ho hmb (by decide) _ _
  · rcases List.mem_append.1 hg' with hg' | hg'
    · exact ⟨⟨hk (by decide) (by decide) (h1.og g' hg').1.1, hk (by decide) (by decide) (h1.og g' hg').1.2⟩, (h1.og g' hg').2⟩
    · rw [List.mem_singleton] at hg'; subst hg'
      exact ⟨⟨hk (by decide) (by decide) hgs.1, hk (by decide) (by decide) hgs.2⟩, hgo.2⟩
  · obtain ⟨e1, e2⟩ := List.append_inj' e rfl
    injection e2 with e2 _
    subst e1 e2
    refine ⟨fun f hf k hk' => ?_, ?_⟩
    · have := ((h1.og f hf).1.2.lt k hk').2
      have := hg.size
      omega
    · rw [hc.2.2]
      show (W'.setCell _ _).ownsRow _ _ _ (.slice g.ca g.code.length g.cc) _ _
      rw [hc.1, hc.2.1, hc.2.2]
      exact World.ownsRow_nil _ _ _ _
  · have h2 : (W.alloc o).heap[k]? = _ := ((Below.one (Below.refl _ W) o).block _ (Array.getElem?_eq_some_iff.1 hk').1).trans hk'
    have h3 := grown_other h1.of hg h2 (by decide)
    refine (Below.heap_setCell _ _ _ _ (fun e => ?_)).trans h3
    simp only at e
    subst e
    rw [hmb] at h3
    injection h3 with h3
    injection h3 with _ e2 _
    cases e2
end Go.Proofs.YtboidkmnkicoeaaGreatDoor

/- The document's own Parse: heads, places and instructions are added. -/
namespace Go.Proofs.YtboidkmnkicoeaaGreatDoor
open Go.RowKit Go.Sort

variable {w : World} {ths : List Int} {gs : List Fn} {hs : List Nat} {qs : List Pl} {vt vf v7 v8 : Value} {B C : Nat} {W W' : World}
theorem Rf.heads (h : Rf w ths gs hs qs vt vf v7 v8 B C W) (o : Obj) {n : Nat} {v' : Value} (hg : (W.alloc o).grownBy W' v7.ownBlock) (ho : W'.ownsRow w.heap.size 3 1 v' (hs.length + 1) (hs.map hC ++ [.int .i64 n])) (hl : v'.ownBlock = v7.ownBlock ∨ v'.ownBlock = some (W.alloc o).heap.size) :
    Rf w ths gs (hs ++ [n]) qs vt vf v' v8 B C W' ∧ ∀ (k : Nat) (cs : Array Value), W.heap[k]? = some (.cells cs 57) → W'.heap[k]? = some (.cells cs 57) := by
  have h1 := h.stay (Below.one (Below.refl _ W) o)
  have hk : ∀ {T : TypeId} {M n sz : Nat} {v : Value} {xs : List Value}, T ≠ 3 → (W.alloc o).ownsRow M T sz v n xs → W'.ownsRow M T sz v n xs := fun hT hh => hh.kept hg (own_ne hh h1.oh hT)
  have hkq : ∀ q ∈ qs, ∀ {M : Nat}, (W.alloc o).ownsRow M 3 1 (plV q) q.l.length (q.l.map hC) → W'.ownsRow M 3 1 (plV q) q.l.length (q.l.map hC) := fun q hq M hh => hh.kept hg (by
    cases e : (plV q).ownBlock with
    | none => exact .inl rfl
    | some k => exact .inr (fun e2 => h1.s7 q hq k e2.symm e))
  refine ⟨⟨h1.bl.grown hg h1.bl.size (fun k e => own_base h1.oh k e), grown_other h1.oh hg h1.zb (by decide), grown_other h1.oh hg h1.mb (by decide), hk (by decide) h1.ot, hk (by decide) h1.of, ?_, hk (by decide) h1.op, fun g hg' => ⟨⟨hk (by decide) (h1.og g hg').1.1, hk (by decide) (h1.og g hg').1.2⟩, (h1.og g hg').2⟩, fun q hq => hkq q hq (h1.oq q hq), ⟨h1.nB.1, Nat.le_trans h1.nB.2 hg.size⟩, ⟨h1.nC.1, Nat.le_trans h1.nC.2 hg.size⟩, fun hd g e => ⟨(h1.sp hd g e).1, hk (by decide) (h1.sp hd g e).2⟩, fun hd q e => ⟨(h1.sq hd q e).1, hkq q (by rw [e]; simp) (h1.sq hd q e).2⟩, fun q hq k hk' e => ?_⟩, fun k cs hk' => ?_⟩
  · rw [List.length_append, List.map_append]; exact ho
  · rcases hl with hl | hl
    · exact h1.s7 q hq k (hl ▸ hk') e
    · rw [hl] at hk'
      injection hk' with hk'
      have := ((h1.oq q hq).lt k e).2
      omega
  · exact grown_other h1.oh hg (((Below.one (Below.refl _ W) o).block _ (Array.getElem?_eq_some_iff.1 hk').1).trans hk') (by decide)
theorem Rf.pls (h : Rf w ths gs hs qs vt vf v7 v8 B C W) {v' : Value} {W2 : World} (hW2 : (W.alloc (.cells #[] 3)).alloc (.cells #[.slice (some ⟨W.heap.size, 0, none⟩) 0 0] 40) = W2) (hg : W2.grownBy W' v8.ownBlock) (ho : W'.ownsRow w.heap.size 40 1 v' (qs.length + 1) (qs.map plV ++ [.slice (some ⟨W.heap.size, 0, none⟩) 0 0])) :
    Rf w ths gs hs (qs ++ [⟨some ⟨W.heap.size, 0, none⟩, 0, []⟩]) vt vf v7 v' B W.heap.size W' ∧ ∀ (k : Nat) (cs : Array Value), W.heap[k]? = some (.cells cs 57) → W'.heap[k]? = some (.cells cs 57) := by
  have hb := Below.one (Below.one (Below.refl _ W) (.cells #[] 3)) (.cells #[.slice (some ⟨W.heap.size, 0, none⟩) 0 0] 40)
  rw [hW2] at hb
  have h1 := h.stay hb
  have hk : ∀ {T : TypeId} {M n sz : Nat} {v : Value} {xs : List Value}, T ≠ 40 → W2.ownsRow M T sz v n xs → W'.ownsRow M T sz v n xs := fun hT hh => hh.kept hg (own_ne hh h1.op hT)
  have hnew : W2.ownsRow W.heap.size 3 1 (plV ⟨some ⟨W.heap.size, 0, none⟩, 0, []⟩) 0 [] := by
    rw [← hW2]; exact (row_new W 3 1).alloc _
  have hsz := hb.size
  have hsz2 := hg.size
  refine ⟨⟨h1.bl.grown hg h1.bl.size (fun k e => own_base h1.op k e), grown_other h1.op hg h1.zb (by decide), grown_other h1.op hg h1.mb (by decide), hk (by decide) h1.ot, hk (by decide) h1.of, hk (by decide) h1.oh, ?_, fun g hg' => ⟨⟨hk (by decide) (h1.og g hg').1.1, hk (by decide) (h1.og g hg').1.2⟩, (h1.og g hg').2⟩, fun q hq => ?_, ⟨h1.nB.1, Nat.le_trans h1.nB.2 hg.size⟩, ⟨h.bl.size, by omega⟩, fun hd g e => ⟨(h1.sp hd g e).1, hk (by decide) (h1.sp hd g e).2⟩, fun hd q e => ?_, fun q hq k hk' e => ?_⟩, fun k cs hk' => ?_⟩
  · rw [List.length_append, List.map_append]; exact ho
  · rcases List.mem_append.1 hq with hq | hq
    · exact hk (by decide) (h1.oq q hq)
    · rw [List.mem_singleton] at hq; subst hq
      exact hk (by decide) (own_mono hnew h.bl.size)
  · obtain ⟨e1, e2⟩ := List.append_inj' e rfl
    injection e2 with e2 _
    subst e1 e2
    exact ⟨fun f hf k hk' => ((h.oq f hf).lt k hk').2, hk (by decide) hnew⟩
  · rcases List.mem_append.1 hq with hq | hq
    · exact h.s7 q hq k hk' e
    · rw [List.mem_singleton] at hq; subst hq
      have h2 := (h.oh.lt k hk').2
      have h3 : some W.heap.size = some k := e
      injection h3 with h3
      omega
  · exact grown_other h1.op hg ((hb.block _ (Array.getElem?_eq_some_iff.1 hk').1).trans hk') (by decide)
theorem Rf.code {hd : List Fn} {g : Fn} {gf cf : Nat} (h : Rf w ths (hd ++ [g]) hs qs vt (.slice (some ⟨gf, 0, none⟩) (hd ++ [g]).length cf) v7 v8 B C W) {x : Is} (hx : x.Ok) (hl : g.code.length < 100000000) (o : Obj) {a : Option Addr} {c : Nat}
    (hg : (W.alloc o).grownBy W' (codeV g).ownBlock) (ho : W'.ownsRow B 36 5 (.slice a (g.code.length + 1) c) (g.code.length + 1) (g.code.flatMap Is.cells ++ x.cells)) :
    Rf w ths (hd ++ [{ g with ca := a, cc := c, code := g.code ++ [x] }]) hs qs vt (.slice (some ⟨gf, 0, none⟩) (hd ++ [g]).length cf) v7 v8 B C (W'.setCell ⟨gf, hd.length * 5 + 4, none⟩ (.slice a (g.code.length + 1) c)) ∧ W'.frozen? ⟨gf, hd.length * 5 + 4, none⟩ = false ∧ W'.cell? ⟨gf, hd.length * 5 + 4, none⟩ = some (codeV g) ∧ W'.heap[w.heap.size + 1]? = some (.cells #[vt, .slice (some ⟨gf, 0, none⟩) (hd ++ [g]).length cf] 25) ∧ ∀ (k : Nat) (cs : Array Value), W.heap[k]? = some (.cells cs 57) → (W'.setCell ⟨gf, hd.length * 5 + 4, none⟩ (.slice a (g.code.length + 1) c)).heap[k]? = some (.cells cs 57) := by
  have h1 := h.stay (Below.one (Below.refl _ W) o)
  obtain ⟨hs1, hs2⟩ := h1.sp hd g rfl
  have hk : ∀ {T : TypeId} {M n sz : Nat} {v : Value} {xs : List Value}, (W.alloc o).ownsRow M T sz v n xs → T ≠ 36 → W'.ownsRow M T sz v n xs := fun hh hT => hh.kept hg (own_ne hh hs2 hT)
  have hmb := grown_other hs2 hg h1.mb (by decide)
  obtain ⟨g2, e2, _, hng, cur, hgf⟩ := own_cellN h1.of (j := 0) (u := ((hd ++ [g]).flatMap Fn.cells)[0]'(by rw [flat_len (k := 5) (fun _ => rfl)]; simp)) (List.getElem?_eq_getElem _)
  injection e2 with e2
  injection e2 with e2
  subst e2
  have hgf' := grown_other hs2 hg hgf (by decide)
  have hof := hk h1.of (by decide)
  have hcell : W'.cell? ⟨gf, hd.length * 5 + 4, none⟩ = some (codeV g) := by
    have hj : ((hd ++ [g]).flatMap Fn.cells)[hd.length * 5 + 4]? = some (codeV g) := by
      rw [List.flatMap_append, List.getElem?_append_right (by rw [flat_len (k := 5) (fun _ => rfl)]; omega), flat_len (k := 5) (fun _ => rfl), show hd.length * 5 + 4 - hd.length * 5 = 4 by omega]
      rfl
    obtain ⟨g3, e3, hc, _⟩ := own_cellN hof hj
    injection e3 with e3
    injection e3 with e3
    rw [e3]; exact hc
  have hlast : ∀ {T : TypeId} {M n sz : Nat} {v : Value} {xs : List Value}, W'.ownsRow M T sz v n xs → T ≠ 34 → (W'.setCell ⟨gf, hd.length * 5 + 4, none⟩ (.slice a (g.code.length + 1) c)).ownsRow M T sz v n xs := fun hh hT => own_set hh hgf' hT _ _
  have hot : ∀ {k : Nat} {cs : Array Value} {T : TypeId}, W'.heap[k]? = some (.cells cs T) → T ≠ 34 → (W'.setCell ⟨gf, hd.length * 5 + 4, none⟩ (.slice a (g.code.length + 1) c)).heap[k]? = some (.cells cs T) := fun {k cs T} hh hT => (Below.heap_setCell _ _ _ _ (fun e => by simp only at e; subst e; rw [hgf'] at hh; injection hh with hh; injection hh with _ e2 _; exact hT e2.symm)).trans hh
  have hbl : Below w.heap.size w W' := h1.bl.grown hg h1.bl.size (fun k e => Nat.le_trans h.nB.1 (own_base hs2 k e))
  have hsz : (W.alloc o).heap.size ≤ (W'.setCell ⟨gf, hd.length * 5 + 4, none⟩ (.slice a (g.code.length + 1) c)).heap.size := by have := hg.size; simpa [World.setCell] using this
  refine ⟨⟨hbl.setCell hng _, hot (grown_other hs2 hg h1.zb (by decide)) (by decide), hot hmb (by decide), hlast (hk h1.ot (by decide)) (by decide), ?_, hlast (hk h1.oh (by decide)) (by decide), hlast (hk h1.op (by decide)) (by decide), ?_, fun q hq => hlast (hk (h1.oq q hq) (by decide)) (by decide), ⟨h1.nB.1, Nat.le_trans h1.nB.2 hsz⟩, ⟨h1.nC.1, Nat.le_trans h1.nC.2 hsz⟩, ?_, fun hd q e => ⟨(h1.sq hd q e).1, hlast (hk (h1.sq hd q e).2 (by decide)) (by decide)⟩, h1.s7⟩, Lib.frozen_of_heap hgf' _, hcell, hmb, fun k cs hk' => ?_⟩
  · have := own_at hof (hd.length * 5 + 4) (.slice a (g.code.length + 1) c)
    rw [show g.code.length + 1 = (g.code ++ [x]).length by simp] at this ⊢
    rw [flat_set5] at this
    simpa using this
  · intro y hy
    rcases List.mem_append.1 hy with hy | hy
    · have hyg := h1.og y (List.mem_append_left _ hy)
      refine ⟨⟨hlast (hk hyg.1.1 (by decide)) (by decide), hlast (hyg.1.2.kept hg ?_) (by decide)⟩, hyg.2⟩
      by_cases hyn : (codeV y).ownBlock = none
      · exact .inl hyn
      · refine .inr fun e => ?_
        cases hq : (codeV y).ownBlock with
        | none => exact hyn hq
        | some q =>
          have h2 := hs1 y hy q hq
          have h3 := own_base hs2 q (e ▸ hq)
          omega
    · rw [List.mem_singleton] at hy
      subst hy
      have hgg := h1.og g (by simp)
      refine ⟨⟨hlast (hk hgg.1.1 (by decide)) (by decide), hlast ?_ (by decide)⟩, ?_⟩
      · have := own_mono ho h.nB.1
        simp only [List.length_append, List.length_cons, List.length_nil, List.flatMap_append, List.flatMap_cons, List.flatMap_nil, List.append_nil]
        exact this
      · obtain ⟨k1, k2, k3, k4, k5, k6, k7⟩ := hgg.2
        refine ⟨k1, k2, k3, k4, k5, by simp; omega, fun z hz => ?_⟩
        rcases List.mem_append.1 hz with hz | hz
        · exact k7 z hz
        · rw [List.mem_singleton] at hz; subst hz; exact hx
  · intro hd' g' e
    have hh := List.append_inj' e rfl
    obtain ⟨rfl, e2⟩ := hh
    injection e2 with e2 _
    subst e2
    refine ⟨hs1, hlast ?_ (by decide)⟩
    simp only [codeV, List.length_append, List.length_cons, List.length_nil, List.flatMap_append, List.flatMap_cons, List.flatMap_nil, List.append_nil]
    exact ho
  · exact hot (grown_other hs2 hg (((Below.one (Below.refl _ W) o).block _ (Array.getElem?_eq_some_iff.1 hk').1).trans hk') (by decide)) (by decide)
theorem Rf.place {hd : List Pl} {q : Pl} {g8 c8 : Nat} (h : Rf w ths gs hs (hd ++ [q]) vt vf v7 (.slice (some ⟨g8, 0, none⟩) (hd ++ [q]).length c8) B C W) (o : Obj) {n : Nat} {a : Option Addr} {c : Nat}
    (hg : (W.alloc o).grownBy W' (plV q).ownBlock) (ho : W'.ownsRow C 3 1 (.slice a (q.l.length + 1) c) (q.l.length + 1) (q.l.map hC ++ [.int .i64 n])) (hl : (Value.slice a (q.l.length + 1) c).ownBlock = (plV q).ownBlock ∨ (Value.slice a (q.l.length + 1) c).ownBlock = some (W.alloc o).heap.size) :
    Rf w ths gs hs (hd ++ [⟨a, c, q.l ++ [n]⟩]) vt vf v7 (.slice (some ⟨g8, 0, none⟩) (hd ++ [q]).length c8) B C (W'.setCell ⟨g8, hd.length, none⟩ (.slice a (q.l.length + 1) c)) ∧ W'.frozen? ⟨g8, hd.length, none⟩ = false ∧ W'.cell? ⟨g8, hd.length, none⟩ = some (plV q) ∧ ∀ (k : Nat) (cs : Array Value), W.heap[k]? = some (.cells cs 57) → (W'.setCell ⟨g8, hd.length, none⟩ (.slice a (q.l.length + 1) c)).heap[k]? = some (.cells cs 57) := by
  have h1 := h.stay (Below.one (Below.refl _ W) o)
  obtain ⟨hs1, hs2⟩ := h1.sq hd q rfl
  have hk : ∀ {T : TypeId} {M n sz : Nat} {v : Value} {xs : List Value}, (W.alloc o).ownsRow M T sz v n xs → T ≠ 3 → W'.ownsRow M T sz v n xs := fun hh hT => hh.kept hg (own_ne hh hs2 hT)
  obtain ⟨g2, e2, _, hng, cur, hgf⟩ := own_cellN h1.op (j := 0) (u := ((hd ++ [q]).map plV)[0]'(by simp)) (List.getElem?_eq_getElem _)
  injection e2 with e2
  injection e2 with e2
  subst e2
  have hgf' := grown_other hs2 hg hgf (by decide)
  have hop := hk h1.op (by decide)
  have hcell : W'.cell? ⟨g8, hd.length, none⟩ = some (plV q) := by
    have hj : ((hd ++ [q]).map plV)[hd.length]? = some (plV q) := by
      rw [List.map_append, List.getElem?_append_right (by simp)]
      simp
    obtain ⟨g3, e3, hc, _⟩ := own_cellN hop hj
    injection e3 with e3
    injection e3 with e3
    rw [e3]; exact hc
  have hlast : ∀ {T : TypeId} {M n sz : Nat} {v : Value} {xs : List Value}, W'.ownsRow M T sz v n xs → T ≠ 40 → (W'.setCell ⟨g8, hd.length, none⟩ (.slice a (q.l.length + 1) c)).ownsRow M T sz v n xs := fun hh hT => own_set hh hgf' hT _ _
  have hot : ∀ {k : Nat} {cs : Array Value} {T : TypeId}, W'.heap[k]? = some (.cells cs T) → T ≠ 40 → (W'.setCell ⟨g8, hd.length, none⟩ (.slice a (q.l.length + 1) c)).heap[k]? = some (.cells cs T) := fun {k cs T} hh hT => (Below.heap_setCell _ _ _ _ (fun e => by simp only at e; subst e; rw [hgf'] at hh; injection hh with hh; injection hh with _ e2 _; exact hT e2.symm)).trans hh
  have hbl : Below w.heap.size w W' := h1.bl.grown hg h1.bl.size (fun k e => Nat.le_trans h.nC.1 (own_base hs2 k e))
  have hsz : (W.alloc o).heap.size ≤ (W'.setCell ⟨g8, hd.length, none⟩ (.slice a (q.l.length + 1) c)).heap.size := by have := hg.size; simpa [World.setCell] using this
  have hk7 : W'.ownsRow w.heap.size 3 1 v7 hs.length (hs.map hC) := h1.oh.kept hg (by
    cases e : v7.ownBlock with
    | none => exact .inl rfl
    | some k => exact .inr (fun e2 => h1.s7 q (by simp) k e e2.symm))
  refine ⟨⟨hbl.setCell hng _, hot (grown_other hs2 hg h1.zb (by decide)) (by decide), hot (grown_other hs2 hg h1.mb (by decide)) (by decide), hlast (hk h1.ot (by decide)) (by decide), hlast (hk h1.of (by decide)) (by decide), hlast hk7 (by decide), ?_, fun g hg' => ⟨⟨hlast (hk (h1.og g hg').1.1 (by decide)) (by decide), hlast (hk (h1.og g hg').1.2 (by decide)) (by decide)⟩, (h1.og g hg').2⟩, ?_, ⟨h1.nB.1, Nat.le_trans h1.nB.2 hsz⟩, ⟨h1.nC.1, Nat.le_trans h1.nC.2 hsz⟩, fun hd g e => ⟨(h1.sp hd g e).1, hlast (hk (h1.sp hd g e).2 (by decide)) (by decide)⟩, ?_, ?_⟩, Lib.frozen_of_heap hgf' _, hcell, fun k cs hk' => ?_⟩
  · have := own_at hop hd.length (.slice a (q.l.length + 1) c)
    have e : ((hd ++ [q]).map plV).set hd.length (.slice a (q.l.length + 1) c) = (hd ++ [(⟨a, c, q.l ++ [n]⟩ : Pl)]).map plV := by
      rw [List.map_append, List.map_append, List.set_append_right _ _ (by simp)]
      simp [plV]
    rw [e] at this
    simpa using this
  · intro y hy
    rcases List.mem_append.1 hy with hy | hy
    · refine hlast ((h1.oq y (List.mem_append_left _ hy)).kept hg ?_) (by decide)
      by_cases hyn : (plV y).ownBlock = none
      · exact .inl hyn
      · refine .inr fun e => ?_
        cases hq : (plV y).ownBlock with
        | none => exact hyn hq
        | some k =>
          have h2 := hs1 y hy k hq
          have h3 := own_base hs2 k (e ▸ hq)
          omega
    · rw [List.mem_singleton] at hy
      subst hy
      have := own_mono ho h.nC.1
      refine hlast ?_ (by decide)
      simp only [plV, List.length_append, List.length_cons, List.length_nil, List.map_append, List.map_cons, List.map_nil]
      exact this
  · intro hd' q' e
    have hh := List.append_inj' e rfl
    obtain ⟨rfl, e2⟩ := hh
    injection e2 with e2 _
    subst e2
    refine ⟨hs1, hlast ?_ (by decide)⟩
    simp only [plV, List.length_append, List.length_cons, List.length_nil, List.map_append, List.map_cons, List.map_nil]
    exact ho
  · intro y hy k hk' e
    rcases List.mem_append.1 hy with hy | hy
    · exact h1.s7 y (List.mem_append_left _ hy) k hk' e
    · rw [List.mem_singleton] at hy
      subst hy
      have e' : (Value.slice a (q.l.length + 1) c).ownBlock = some k := by
        simp only [plV, List.length_append, List.length_cons, List.length_nil] at e; exact e
      rcases hl with hl | hl
      · exact h1.s7 q (by simp) k hk' (hl ▸ e')
      · rw [hl] at e'
        injection e' with e'
        have := (h1.oh.lt k hk').2
        omega
  · exact hot (grown_other hs2 hg (((Below.one (Below.refl _ W) o).block _ (Array.getElem?_eq_some_iff.1 hk').1).trans hk') (by decide)) (by decide)
end Go.Proofs.YtboidkmnkicoeaaGreatDoor
