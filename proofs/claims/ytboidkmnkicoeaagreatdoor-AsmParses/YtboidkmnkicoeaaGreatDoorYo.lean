/- asm.draft in memory. -/
import Derived.Test.YtboidkmnkicoeaaGreatDoorJf
import Derived.Test.YtboidkmnkicoeaaGreatDoorYn
import Derived.Deep.RegionLaw
import Derived.RangeFuncOwn
namespace Go.Proofs.YtboidkmnkicoeaaGreatDoor
open Go.RowKit Go.Sort

theorem own_at {W : World} {N n sz : Nat} {T : TypeId} {g cap : Nat} {xs : List Value} (h : W.ownsRow N T sz (.slice (some ⟨g, 0, none⟩) n cap) n xs) (i : Nat) (u : Value) : (W.setCell ⟨g, i, none⟩ u).ownsRow N T sz (.slice (some ⟨g, 0, none⟩) n cap) n (xs.set i u) := by
  refine ⟨by rw [List.length_set]; exact h.1, ?_⟩
  rcases h.2 with ⟨e, _⟩ | ⟨g', cap', cur, e, h1, h2, h3, h4, h5, h6⟩
  · cases e
  · injection e with e1 _ e3
    injection e1 with e1
    injection e1 with e1
    subst e1; subst e3
    refine .inr ⟨g, cap, cur.setIfInBounds i u, rfl, h1, ?_, h3, h4, by simp [h5], ?_⟩
    · exact heap_setCell_same W g i _ _ u h2
    · rw [Array.toList_setIfInBounds, List.take_set, h6]
theorem own_cellN {W : World} {N n sz : Nat} {T : TypeId} {a : Option Addr} {c : Nat} {xs : List Value} (h : W.ownsRow N T sz (.slice a n c) n xs) {j : Nat} {u : Value} (hj : xs[j]? = some u) : ∃ g, a = some ⟨g, 0, none⟩ ∧ W.cell? ⟨g, j, none⟩ = some u ∧ N ≤ g ∧ ∃ cur, W.heap[g]? = some (.cells cur T) := by
  rcases h.2 with ⟨e, h0⟩ | ⟨g, cap, cur, e, h1, h2, h3, h4, h5, h6⟩
  · have h7 := h.1
    rw [h0, Nat.zero_mul] at h7
    rw [List.eq_nil_of_length_eq_zero h7] at hj
    simp at hj
  · cases e
    refine ⟨g, rfl, ?_, h1, cur, h2⟩
    have := h.cells (g := g) rfl j u hj
    rwa [Addr.add_lit, Nat.zero_add] at this
/-- Of the blocks that there were, none below N is written but b, and none that holds no cells. -/
structure BB (N b : Nat) (w w' : World) : Prop where
  os : w'.os = w.os
  tape : w'.tape = w.tape
  output : w'.output = w.output
  size : w.heap.size ≤ w'.heap.size
  block : ∀ k, k < w.heap.size → k < N → k ≠ b → w'.heap[k]? = w.heap[k]?
  oth : ∀ (k : Nat) (o : Obj), w.heap[k]? = some o → o.isCells = false → w'.heap[k]? = some o
theorem BB.trans {N b : Nat} {w w1 w2 : World} (h : BB N b w w1) (k : BB N b w1 w2) : BB N b w w2 :=
  ⟨k.os.trans h.os, k.tape.trans h.tape, k.output.trans h.output, Nat.le_trans h.size k.size, fun i h1 h2 h3 => (k.block i (by have := h.size; omega) h2 h3).trans (h.block i h1 h2 h3), fun i o hi ho => k.oth i o (h.oth i o hi ho) ho⟩
theorem BB.of {N b : Nat} {w w1 : World} (h : Below w.heap.size w w1) : BB N b w w1 :=
  ⟨h.os, h.tape, h.output, h.size, fun i h1 _ _ => h.block i h1, fun i _ hi _ => (h.block i (Array.getElem?_eq_some_iff.1 hi).1).trans hi⟩
theorem BB.on {N b : Nat} {w w1 w2 : World} (h : Below w.heap.size w w1) (k : BB N b w1 w2) : BB N b w w2 := (BB.of h).trans k
theorem BB.set {N b : Nat} {w w1 : World} (h : BB N b w w1) {g : Nat} {cs : Array Value} {T : TypeId} (hg : w1.heap[g]? = some (.cells cs T)) (hN : N ≤ g ∨ g = b) {j : Nat} (u : Value) : BB N b w (w1.setCell ⟨g, j, none⟩ u) :=
  ⟨h.os, h.tape, h.output, by have := h.size; simpa [World.setCell] using this, fun i h1 h2 h3 => (Below.heap_setCell _ _ _ _ (by simp only; omega)).trans (h.block i h1 h2 h3), fun i o hi ho => by
    have h1 := h.oth i o hi ho
    refine (Below.heap_setCell _ _ _ _ (fun e => ?_)).trans h1
    simp only at e
    subst e
    rw [h1] at hg
    injection hg with hg
    subst hg
    cases ho⟩
theorem BB.grown {N b M n sz : Nat} {T : TypeId} {v : Value} {xs : List Value} {w w1 w2 : World} (h : BB N b w w1) (ho : w1.ownsRow M T sz v n xs) (hM : N ≤ M) (hg : w1.grownBy w2 v.ownBlock) : BB N b w w2 :=
  ⟨hg.os.trans h.os, hg.tape.trans h.tape, hg.output.trans h.output, Nat.le_trans h.size hg.size, fun i h1 h2 h3 => (hg.block i (by have := h.size; omega) (fun e => by have := own_base ho i e.symm; omega)).trans (h.block i h1 h2 h3), fun i o hi hc => by
    have h1 := h.oth i o hi hc
    refine (hg.block i (Array.getElem?_eq_some_iff.1 h1).1 (fun e => ?_)).trans h1
    rcases ho.2 with ⟨rfl, _⟩ | ⟨g, cap, cur, rfl, _, hgb, _⟩
    · cases e
    · have e2 : i = g := by simpa [Value.ownBlock] using e
      subst e2
      rw [h1] at hgb
      injection hgb with hgb
      subst hgb
      cases hc⟩
def hC (n : Nat) : Value := .int .i64 (n : Int)
/-- What is asked of a function that is kept. -/
def GOk (g : Fn) : Prop := g.name.size ≤ 140737488351232 ∧ I64 g.regs ∧ I64 g.words ∧ g.params.length ≤ 9 ∧ (∀ p ∈ g.params, spOk p) ∧ g.code.length ≤ 1025 ∧ ∀ x ∈ g.code, x.Ok
theorem GOk.in {g : Fn} {W : World} {N : Nat} (h : GOk g) (ho : OwnF W N g) : g.In W := by
  obtain ⟨h1, h2, h3, h4, h5, h6, h7⟩ := h
  exact ⟨h1, h2, h3, ⟨by omega, own_row ho.1 (fun _ => rfl) (by omega)⟩, h5, ⟨by omega, own_row ho.2 (fun _ => rfl) (by omega)⟩, h7⟩
abbrev codeV (g : Fn) : Value := .slice g.ca g.code.length g.cc
abbrev parV (g : Fn) : Value := .slice g.pa g.params.length g.pc
/-- No two functions share a block. -/
def Apart (gs : List Fn) : Prop := gs.Pairwise fun f g => (∀ k, (codeV f).ownBlock = some k → (codeV g).ownBlock ≠ some k) ∧ ∀ k, (parV f).ownBlock = some k → (parV g).ownBlock ≠ some k
/-- Block b holds what has been read. -/
structure DrAt (N b : Nat) (d : Dr) (vt vf vh : Value) (gs : List Fn) (B : Nat) (W : World) : Prop where
  bk : W.heap[b]? = some (.cells #[vt, vf, vh] 42)
  ot : W.ownsRow N 2 1 vt (d.ths.take 20).length ((d.ths.take 20).flatMap thC)
  of : W.ownsRow N 34 5 vf gs.length (gs.flatMap Fn.cells)
  oh : W.ownsRow N 3 1 vh (d.hs.take 33).length ((d.hs.take 33).map hC)
  tr : Tr gs d.fs
  og : ∀ g ∈ gs, OwnF W N g ∧ GOk g
  nB : N ≤ B
  lB : B ≤ W.heap.size
  sp : ∀ hd g, gs = hd ++ [g] → (∀ f ∈ hd, ∀ k, (codeV f).ownBlock = some k → k < B) ∧ W.ownsRow B 36 5 (codeV g) g.code.length (g.code.flatMap Is.cells)
  di : Apart gs
theorem DrAt.stay {N b : Nat} {d : Dr} {vt vf vh : Value} {gs : List Fn} {B : Nat} {W W' : World} (h : DrAt N b d vt vf vh gs B W) (hb : Below W.heap.size W W') : DrAt N b d vt vf vh gs B W' :=
  ⟨(hb.block _ (Array.getElem?_eq_some_iff.1 h.bk).1).trans h.bk, own_stay h.ot hb, own_stay h.of hb, own_stay h.oh hb, h.tr, fun g hg => ⟨(h.og g hg).1.stay hb, (h.og g hg).2⟩, h.nB, Nat.le_trans h.lB hb.size, fun hd g e => ⟨(h.sp hd g e).1, own_stay (h.sp hd g e).2 hb⟩, h.di⟩
theorem DrAt.lt {N b : Nat} {d : Dr} {vt vf vh : Value} {gs : List Fn} {B : Nat} {W : World} (h : DrAt N b d vt vf vh gs B W) : b < W.heap.size := (Array.getElem?_eq_some_iff.1 h.bk).1
theorem DrAt.cell {N b : Nat} {d : Dr} {vt vf vh : Value} {gs : List Fn} {B : Nat} {W : World} (h : DrAt N b d vt vf vh gs B W) : W.cell? ⟨b, 0, none⟩ = some vt ∧ W.cell? ⟨b, 1, none⟩ = some vf ∧ W.cell? ⟨b, 2, none⟩ = some vh :=
  ⟨cell_of_obj h.bk rfl, cell_of_obj h.bk rfl, cell_of_obj h.bk rfl⟩
theorem DrAt.frozen {N b : Nat} {d : Dr} {vt vf vh : Value} {gs : List Fn} {B : Nat} {W : World} (h : DrAt N b d vt vf vh gs B W) (j : Nat) : W.frozen? ⟨b, j, none⟩ = false := Lib.frozen_of_heap h.bk j
/-- The thresholds are written. -/
theorem DrAt.ths {N b : Nat} {d : Dr} {vt vf vh v : Value} {gs : List Fn} {B : Nat} {W : World} {l : List Int} (h : DrAt N b d vt vf vh gs B W) (ho : W.ownsRow N 2 1 v (l.take 20).length ((l.take 20).flatMap thC)) : DrAt N b { d with ths := l } v vf vh gs B (W.setCell ⟨b, 0, none⟩ v) :=
  ⟨by have := heap_setCell_same W b 0 _ _ v h.bk; simpa using this, own_set ho h.bk (by decide) _ _, own_set h.of h.bk (by decide) _ _, own_set h.oh h.bk (by decide) _ _, h.tr,
   fun g hg => ⟨⟨own_set (h.og g hg).1.1 h.bk (by decide) _ _, own_set (h.og g hg).1.2 h.bk (by decide) _ _⟩, (h.og g hg).2⟩, h.nB, by have := h.lB; simpa [World.setCell] using this, fun hd g e => ⟨(h.sp hd g e).1, own_set (h.sp hd g e).2 h.bk (by decide) _ _⟩, h.di⟩
theorem flat_set5 (hd : List Fn) (g : Fn) (a : Option Addr) (c : Nat) (code : List Is) : ((hd ++ [g]).flatMap Fn.cells).set (hd.length * 5 + 4) (.slice a code.length c) = (hd ++ [{ g with ca := a, cc := c, code := code }]).flatMap Fn.cells := by
  rw [List.flatMap_append, List.flatMap_append, List.set_append_right _ _ (by rw [flat_len (k := 5) (fun _ => rfl)]; omega), flat_len (k := 5) (fun _ => rfl), show hd.length * 5 + 4 - hd.length * 5 = 4 by omega]
  simp [Fn.cells]
/-- The last function has one instruction more. -/
theorem DrAt.ins {N b : Nat} {d : Dr} {vt vh : Value} {hd : List Fn} {g : Fn} {B gf cf : Nat} {W W' : World} (h : DrAt N b d vt (.slice (some ⟨gf, 0, none⟩) (hd ++ [g]).length cf) vh (hd ++ [g]) B W) (hf : d.fs ≠ []) {x : Is} (hx : x.Ok) (hl : g.code.length ≤ 1024) (o : Obj) {a : Option Addr} {c : Nat}
    (hg : (W.alloc o).grownBy W' (codeV g).ownBlock) (ho : W'.ownsRow B 36 5 (.slice a (g.code.length + 1) c) (g.code.length + 1) (g.code.flatMap Is.cells ++ x.cells)) :
    DrAt N b { d with fs := d.fs.modify (d.fs.length - 1) (moreI x) } vt (.slice (some ⟨gf, 0, none⟩) (hd ++ [g]).length cf) vh (hd ++ [{ g with ca := a, cc := c, code := g.code ++ [x] }]) B (W'.setCell ⟨gf, hd.length * 5 + 4, none⟩ (.slice a (g.code.length + 1) c)) ∧ W'.frozen? ⟨gf, hd.length * 5 + 4, none⟩ = false ∧ W'.cell? ⟨gf, hd.length * 5 + 4, none⟩ = some (codeV g) ∧ BB N b W (W'.setCell ⟨gf, hd.length * 5 + 4, none⟩ (.slice a (g.code.length + 1) c)) := by
  have h1 := h.stay (Below.one (Below.refl _ W) o)
  obtain ⟨hs1, hs2⟩ := h1.sp hd g rfl
  have hk : ∀ {T : TypeId} {M n sz : Nat} {v : Value} {xs : List Value}, (W.alloc o).ownsRow M T sz v n xs → T ≠ 36 → W'.ownsRow M T sz v n xs := fun hh hT => hh.kept hg (own_ne hh hs2 hT)
  have hbk := grown_other hs2 hg h1.bk (by decide)
  obtain ⟨g2, e2, _, hng, cur, hgf⟩ := own_cellN h1.of (j := 0) (u := ((hd ++ [g]).flatMap Fn.cells)[0]'(by rw [flat_len (k := 5) (fun _ => rfl)]; simp)) (List.getElem?_eq_getElem _)
  injection e2 with e2
  injection e2 with e2
  subst e2
  have hgf' := grown_other hs2 hg hgf (by decide)
  have hof := hk h1.of (by decide)
  have hcell : W'.cell? ⟨gf, hd.length * 5 + 4, none⟩ = some (codeV g) := by
    have hj : ((hd ++ [g]).flatMap Fn.cells)[hd.length * 5 + 4]? = some (codeV g) := by
      rw [List.flatMap_append, List.getElem?_append_right (by rw [flat_len (k := 5) (fun _ => rfl)]; omega), flat_len (k := 5) (fun _ => rfl), show hd.length * 5 + 4 - hd.length * 5 = 4 by omega]
      rfl
    obtain ⟨g3, e3, hc, _⟩ := own_cellN hof hj
    injection e3 with e3
    injection e3 with e3
    rw [e3]; exact hc
  have hlast : ∀ {T : TypeId} {M n sz : Nat} {v : Value} {xs : List Value}, W'.ownsRow M T sz v n xs → T ≠ 34 → (W'.setCell ⟨gf, hd.length * 5 + 4, none⟩ (.slice a (g.code.length + 1) c)).ownsRow M T sz v n xs := fun hh hT => own_set hh hgf' hT _ _
  have hBW : BB N b W W' := (BB.of (Below.one (Below.refl _ W) o)).grown hs2 h.nB hg
  refine ⟨⟨?_, hlast (hk h1.ot (by decide)) (by decide), ?_, hlast (hk h1.oh (by decide)) (by decide), ?_, ?_, h.nB, ?_, ?_, ?_⟩, Lib.frozen_of_heap hgf' _, hcell, hBW.set hgf' (.inl hng) _⟩
  · exact (Below.heap_setCell _ _ _ _ (fun e => by simp only at e; subst e; rw [hbk] at hgf'; cases hgf')).trans hbk
  · have := own_at hof (hd.length * 5 + 4) (.slice a (g.code.length + 1) c)
    rw [show g.code.length + 1 = (g.code ++ [x]).length by simp] at this ⊢
    rw [flat_set5] at this
    simpa using this
  · refine h.tr.last hf x (by simp) (fun i hi => ?_) (fun g0 f0 hg0 he g' hg' => ?_)
    · simp only [List.length_append, List.length_cons, List.length_nil] at hi
      rw [List.getElem?_append_left (by omega), List.getElem?_append_left (by omega)]
    · simp only [List.length_append, List.length_cons, List.length_nil, Nat.add_sub_cancel] at hg0 hg'
      rw [List.getElem?_append_right (Nat.le_refl _), Nat.sub_self] at hg0 hg'
      simp at hg0 hg'
      subst hg0; subst hg'
      have hcode : g.code = f0.code.take 1025 := by have := congrArg Fn.code he; exact this
      have hl0 : f0.code.length ≤ 1024 := by rw [hcode, List.length_take] at hl; omega
      have : (f0.code ++ [x]).take 1025 = g.code ++ [x] := by rw [hcode, List.take_of_length_le (by simp; omega), List.take_of_length_le (by omega)]
      unfold trF moreI
      simp only
      rw [this]
      have he' : g.er = trF f0 := he
      unfold Fn.er trF at he'
      unfold Fn.er
      simp only [Fn.mk.injEq] at he' ⊢
      exact ⟨he'.1, he'.2.1, he'.2.2.1, he'.2.2.2.1, he'.2.2.2.2.1, he'.2.2.2.2.2.1, he'.2.2.2.2.2.2.1, he'.2.2.2.2.2.2.2.1, trivial⟩
  · intro y hy
    rcases List.mem_append.1 hy with hy | hy
    · have hyg := h1.og y (List.mem_append_left _ hy)
      refine ⟨⟨hlast (hk hyg.1.1 (by decide)) (by decide), hlast (hyg.1.2.kept hg ?_) (by decide)⟩, hyg.2⟩
      by_cases hyn : (codeV y).ownBlock = none
      · exact .inl hyn
      · refine .inr fun e => ?_
        cases hq : (codeV y).ownBlock with
        | none => exact hyn hq
        | some q =>
          have h2 := hs1 y hy q hq
          have h3 := own_base hs2 q (e ▸ hq)
          omega
    · rw [List.mem_singleton] at hy
      subst hy
      have hgg := h1.og g (by simp)
      refine ⟨⟨hlast (hk hgg.1.1 (by decide)) (by decide), hlast ?_ (by decide)⟩, ?_⟩
      · have := own_mono ho h.nB
        simp only [List.length_append, List.length_cons, List.length_nil, List.flatMap_append, List.flatMap_cons, List.flatMap_nil, List.append_nil]
        exact this
      · obtain ⟨k1, k2, k3, k4, k5, k6, k7⟩ := hgg.2
        refine ⟨k1, k2, k3, k4, k5, by simp; omega, fun z hz => ?_⟩
        rcases List.mem_append.1 hz with hz | hz
        · exact k7 z hz
        · rw [List.mem_singleton] at hz; subst hz; exact hx
  · have := hg.size
    have := h1.lB
    simp [World.setCell]
    omega
  · intro hd' g' e
    have hh := List.append_inj' e rfl
    obtain ⟨rfl, e2⟩ := hh
    injection e2 with e2 _
    subst e2
    refine ⟨hs1, hlast ?_ (by decide)⟩
    simp only [codeV, List.length_append, List.length_cons, List.length_nil, List.flatMap_append, List.flatMap_cons, List.flatMap_nil, List.append_nil]
    exact ho
  · have hp := List.pairwise_append.1 h.di
    refine List.pairwise_append.2 ⟨hp.1, List.pairwise_singleton _ _, fun f hf y hy => ?_⟩
    rw [List.mem_singleton] at hy
    subst hy
    refine ⟨fun k hk e => ?_, (hp.2.2 f hf g (by simp)).2⟩
    have h2 := hs1 f hf k hk
    have h3 := own_base ho k (by rw [← e]; cases a <;> rfl)
    omega
end Go.Proofs.YtboidkmnkicoeaaGreatDoor
