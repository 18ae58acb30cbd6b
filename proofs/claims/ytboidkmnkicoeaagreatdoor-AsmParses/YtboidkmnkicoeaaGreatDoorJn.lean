/- asm.Parse: a line is cut off; what Parse answers; how it ends. -/
import Derived.Test.YtboidkmnkicoeaaGreatDoorKf
import Derived.Test.YtboidkmnkicoeaaGreatDoorJg
import Derived.Test.YtboidkmnkicoeaaGreatDoorJh
import Derived.WalkMore
namespace Go.Proofs.YtboidkmnkicoeaaGreatDoor
open Go.RowKit Go.Shelf

theorem lineZ_false {n : Nat} {l : Bt} {r : Rs} (h : lineZ n l false = .ok r) : False := by
  unfold lineZ at h
  split at h
  · cases h
  · simp at h
/-- The text up to the next end of a line, and what is behind it. -/
theorem cut_any (t : Bt) (hl : t.length ≤ 140737488351232) : ∃ (line rest : Bt) (en : Bool), (∀ w, Calls Tryz.prog 8 #[.string (tb t), .string ⟨#[10]⟩] w fun e w' => e = .returned (.tuple #[.string (tb line), .string (tb rest), .bool en]) ∧ Below w.heap.size w w') ∧
    (en = true → line.length + 1 + rest.length = t.length) ∧ line.length ≤ t.length ∧ ∀ n d, (n = 1 ∨ t ≠ []) → goZ (spl 10 t) n d = match lineZ n line en with | .error e => .error (e.1, n, e.2) | .ok r => goZ (spl 10 rest) (n + 1) (addZ d n r) := by
  rcases spl_cases 10 t with h | ⟨a, r, h, rfl⟩
  · refine ⟨t, [], false, fun w => cut_no t h w, fun e => (by cases e), Nat.le_refl _, fun n d hn => ?_⟩
    rw [go_last h n d hn]
    cases hq : lineZ n t false with
    | error e => rfl
    | ok r => exact (lineZ_false hq).elim
  · exact ⟨a, r, true, fun w => cut_at a r h hl w, fun _ => by simp; omega, by simp, fun n d _ => go_line h n d⟩
def mo0 : Mo := ⟨none, 0, [], none, 0, []⟩
/-- What Parse answers, and leaves. -/
def PaP (w : World) (s : Bt) (e : Ending) (w' : World) : Prop := Below w.heap.size w w' ∧ ∃ m : Mo, e = .returned (.tuple #[m.val, .int .i64 (parZ s).e, .int .i64 (parZ s).line, .int .i64 (parZ s).at_]) ∧ m.In w' ∧ ((parZ s).e = 0 → m.er = moD (parZ s).d) ∧ ((parZ s).e ≠ 0 → m = mo0)
/-- A module whose functions own their lists, each its own. -/
structure OwnA (W : World) (N : Nat) (m : Mo) : Prop where
  g : ∀ g ∈ m.funcs, OwnF W N g ∧ g.params.length ≤ 9 ∧ g.code.length ≤ 1025
  d : Apart m.funcs
  f : W.ownsRow N 34 5 (.slice m.fa m.funcs.length m.fc) m.funcs.length (m.funcs.flatMap Fn.cells)
def PaQ (w : World) (s : Bt) (e : Ending) (w' : World) : Prop := Below w.heap.size w w' ∧ ∃ m : Mo, e = .returned (.tuple #[m.val, .int .i64 (parZ s).e, .int .i64 (parZ s).line, .int .i64 (parZ s).at_]) ∧ m.In w' ∧ ((parZ s).e = 0 → m.er = moD (parZ s).d) ∧ ((parZ s).e ≠ 0 → m = mo0) ∧ OwnA w' w.heap.size m
theorem PaQ.to {w : World} {s : Bt} {e : Ending} {w' : World} (h : PaQ w s e w') : PaP w s e w' := by
  obtain ⟨h1, m, h2, h3, h4, h5, _⟩ := h
  exact ⟨h1, m, h2, h3, h4, h5⟩
theorem OwnA.zero (W : World) (N : Nat) : OwnA W N mo0 := ⟨fun g hg => by simp [mo0] at hg, List.Pairwise.nil, World.ownsRow_nil _ _ _ _⟩
theorem mo0_in (w : World) : mo0.In w := ⟨⟨by decide, fun j c hj => by simp [mo0] at hj⟩, fun z hz => by simp [mo0] at hz, ⟨by decide, fun j c hj => by simp [mo0] at hj⟩, fun f hf => by simp [mo0] at hf⟩
abbrev nilM : Obj := .cells #[.slice none 0 0, .slice none 0 0] 25
theorem leaf_err {w W : World} {s : Bt} {D : List Deferred} {tmps : Array Value} {ev nn av : Int} (hz : parZ s = ⟨dr0, ev, nn, av⟩) (hne : ev ≠ 0)
    (hres : ∀ W' : World, W'.heap[w.heap.size]? = some nilM → (results Tryz.f4 tmps).run Tryz.prog W' = .ok (.tuple #[mo0.val, .int .i64 ev, .int .i64 nn, .int .i64 av]) W')
    (hb : Below w.heap.size w W) (hm : W.heap[w.heap.size]? = some nilM) (hD : Mk w.heap.size D W) : LeavesInM Fence.wide 6 Tryz.prog Tryz.f4 tmps (PaQ w s) D .returning W := by
  refine hD.leaves (fun W' => Below w.heap.size w W' ∧ W'.heap[w.heap.size]? = some nilM) ?_ ⟨hb, hm⟩ ?_
  · rintro W' d hd hK ⟨h1, h2⟩
    exact ⟨h1.trans (belowK_b (w := w) (Nat.le_refl _) _ d _ _ hd hK rfl rfl), cells_grown h2 (grownBy_putObj' W' d _) (fun r e => by cases e; exact ⟨_, hK, rfl⟩)⟩
  · rintro W' ⟨h1, h2⟩
    refine ⟨_, hres W' h2, h1, mo0, ?_, mo0_in W', ?_, ?_, OwnA.zero _ _⟩
    · rw [hz]
    · rw [hz]; exact fun e => absurd e hne
    · exact fun _ => rfl
theorem leaf_ok {w W : World} {s : Bt} {D : List Deferred} {tmps : Array Value} {N b B : Nat} {d : Dr} {vh : Value} {gs : List Fn} {ta fa : Option Addr} {tc fc : Nat} {n : Nat} (hN : w.heap.size ≤ N) (hz : parZ s = ⟨d, 0, 0, 0⟩) (hme : (mayZ (moD d)).1 = 0) (hk : DOk n d)
    (hres : ∀ W' : World, W'.heap[w.heap.size]? = some (.cells #[.slice ta (d.ths.take 20).length tc, .slice fa gs.length fc] 25) → (results Tryz.f4 tmps).run Tryz.prog W' = .ok (.tuple #[.agg #[.slice ta (d.ths.take 20).length tc, .slice fa gs.length fc], .int .i64 0, .int .i64 0, .int .i64 0]) W')
    (hb : Below w.heap.size w W) (hm : W.heap[w.heap.size]? = some (.cells #[.slice ta (d.ths.take 20).length tc, .slice fa gs.length fc] 25)) (hd : DrAt N b d (.slice ta (d.ths.take 20).length tc) (.slice fa gs.length fc) vh gs B W) (hD : Mk w.heap.size D W) : LeavesInM Fence.wide 6 Tryz.prog Tryz.f4 tmps (PaQ w s) D .returning W := by
  refine hD.leaves (fun W' => Below w.heap.size w W' ∧ W'.heap[w.heap.size]? = some (.cells #[.slice ta (d.ths.take 20).length tc, .slice fa gs.length fc] 25) ∧ DrAt N b d (.slice ta (d.ths.take 20).length tc) (.slice fa gs.length fc) vh gs B W') ?_ ⟨hb, hm, hd⟩ ?_
  · rintro W' q hq hK ⟨h1, h2, h3⟩
    have hr : ∀ r, some q = some r → ∃ o : Obj, W'.heap[r]? = some o ∧ o.isCells = false := fun r e => by cases e; exact ⟨_, hK, rfl⟩
    exact ⟨h1.trans (belowK_b (w := w) (Nat.le_refl _) _ q _ _ hq hK rfl rfl), cells_grown h2 (grownBy_putObj' W' q _) hr, h3.grown (grownBy_putObj' W' q _) hr⟩
  · rintro W' ⟨h1, h2, h3⟩
    refine ⟨_, hres W' h2, h1, ⟨ta, tc, d.ths.take 20, fa, fc, gs⟩, ?_, h3.mo hk.ths, ?_, ?_, ⟨fun g hg => ⟨(h3.og g hg).1.low hN, (h3.og g hg).2.2.2.2.1, (h3.og g hg).2.2.2.2.2.2.1⟩, h3.di, own_mono h3.of hN⟩⟩
    · rw [hz]; rfl
    · intro _
      rw [hz]
      exact (tr_may h3.tr hk.er ta tc fa fc).2 hme
    · rw [hz]; exact fun e => absurd rfl e
theorem Mk.set {N : Nat} {D : List Deferred} {W : World} {B : Nat} {cs : Array Value} {t : TypeId} (h : Mk N D W) (hB : W.heap[B]? = some (.cells cs t)) (j : Nat) (u : Value) : Mk N D (W.setCell ⟨B, j, none⟩ u) :=
  h.keep fun k o hk ho => (Below.heap_setCell _ _ _ _ (fun e => by simp only at e; subst e; rw [hk] at hB; cases hB; cases ho)).trans hk
theorem Mk.drew {N : Nat} {D : List Deferred} {W : World} (h : Mk N D W) : Mk N D W.drew := h.keep fun _ _ hk _ => hk
theorem DrAt.set {N b : Nat} {d : Dr} {vt vf vh : Value} {gs : List Fn} {B : Nat} {W : World} (h : DrAt N b d vt vf vh gs B W) {k : Nat} {cs : Array Value} {t : TypeId} (hk : W.heap[k]? = some (.cells cs t)) (h0 : t ≠ 42) (h1 : 2 ≠ t) (h2 : 34 ≠ t) (h3 : 3 ≠ t) (h4 : 38 ≠ t) (h5 : 36 ≠ t) (j : Nat) (u : Value) : DrAt N b d vt vf vh gs B (W.setCell ⟨k, j, none⟩ u) :=
  ⟨(Below.heap_setCell _ _ _ _ (fun e => by simp only at e; subst e; have := h.bk; rw [hk] at this; cases this; exact h0 rfl)).trans h.bk, own_set h.ot hk h1 _ _, own_set h.of hk h2 _ _, own_set h.oh hk h3 _ _, h.tr, fun g hg => ⟨⟨own_set (h.og g hg).1.1 hk h4 _ _, own_set (h.og g hg).1.2 hk h5 _ _⟩, (h.og g hg).2⟩, h.nB, by have := h.lB; simpa [World.setCell] using this, fun hd g e => ⟨(h.sp hd g e).1, own_set (h.sp hd g e).2 hk h5 _ _⟩, h.di⟩
end Go.Proofs.YtboidkmnkicoeaaGreatDoor

/- asm.Parse. -/
namespace Go.Proofs.YtboidkmnkicoeaaGreatDoor
open Go.RowKit Go.Shelf
attribute [local go_sem] Oper.semAt_some

/-- What the loop holds ahead of a round: n lines have been read, t is left. -/
structure PS (w : World) (s t : Bt) (n : Nat) (d : Dr) (vt vf vh : Value) (gs : List Fn) (B : Nat) (more : Bool) (D : List Deferred) (W : World) : Prop where
  b : Below w.heap.size w W
  m : W.heap[w.heap.size]? = some nilM
  e : Boxed W (w.heap.size + 1 + 1) 26 (.int .i64 0)
  a : Boxed W (w.heap.size + 1 + 1 + 1) 3 (.int .i64 0)
  dr : DrAt (w.heap.size + 1 + 1 + 1 + 1) (w.heap.size + 1) d vt vf vh gs B W
  pi : PrI n d
  go : goZ (spl 10 t) (n + 1) d = goZ (spl 10 s) 1 dr0
  len : n + t.length ≤ s.length
  more : more = decide (n = 0 ∨ t ≠ [])
  mark : Mk w.heap.size D W
def OutI (w : World) (s : Bt) (a : Act) (W : World) : Prop := ∃ (t : Bt) (n : Nat) (d : Dr) (vt vf vh : Value) (gs : List Fn) (B : Nat) (more : Bool) (D : List Deferred) (u1 u3 u4 u5 u11 u12 u13 u14 u15 u16 u17 u18 u19 u20 u21 u22 u23 u24 u25 u26 u27 u28 u29 u30 u31 u32 u33 u34 u35 u36 u37 u38 u39 u40 u41 u42 u43 u44 u45 u46 u47 u48 u49 u50 u51 u52 u53 u54 u55 u56 u57 u58 u59 u60 u61 u62 u63 u64 u65 u66 : Value), PS w s t n d vt vf vh gs B more D W ∧ a = { tmps := #[.string (tb t), u1, .pointer (some ⟨w.heap.size, 0, none⟩), u3, u4, u5, .pointer (some ⟨w.heap.size + 1, 0, none⟩), .pointer (some ⟨w.heap.size + 1 + 1, 0, none⟩), .int .i64 (n : Nat), .pointer (some ⟨w.heap.size + 1 + 1 + 1, 0, none⟩), .bool more, u11, u12, u13, u14, u15, u16, u17, u18, u19, u20, u21, u22, u23, u24, u25, u26, u27, u28, u29, u30, u31, u32, u33, u34, u35, u36, u37, u38, u39, u40, u41, u42, u43, u44, u45, u46, u47, u48, u49, u50, u51, u52, u53, u54, u55, u56, u57, u58, u59, u60, u61, u62, u63, u64, u65, u66], defers := D }
theorem OutI.elim {w : World} {s : Bt} {P : Act → World → Prop} (H : ∀ (t : Bt) (n : Nat) (d : Dr) (vt vf vh : Value) (gs : List Fn) (B : Nat) (more : Bool) (D : List Deferred) (u1 u3 u4 u5 u11 u12 u13 u14 u15 u16 u17 u18 u19 u20 u21 u22 u23 u24 u25 u26 u27 u28 u29 u30 u31 u32 u33 u34 u35 u36 u37 u38 u39 u40 u41 u42 u43 u44 u45 u46 u47 u48 u49 u50 u51 u52 u53 u54 u55 u56 u57 u58 u59 u60 u61 u62 u63 u64 u65 u66 : Value) (W : World), PS w s t n d vt vf vh gs B more D W → P { tmps := #[.string (tb t), u1, .pointer (some ⟨w.heap.size, 0, none⟩), u3, u4, u5, .pointer (some ⟨w.heap.size + 1, 0, none⟩), .pointer (some ⟨w.heap.size + 1 + 1, 0, none⟩), .int .i64 (n : Nat), .pointer (some ⟨w.heap.size + 1 + 1 + 1, 0, none⟩), .bool more, u11, u12, u13, u14, u15, u16, u17, u18, u19, u20, u21, u22, u23, u24, u25, u26, u27, u28, u29, u30, u31, u32, u33, u34, u35, u36, u37, u38, u39, u40, u41, u42, u43, u44, u45, u46, u47, u48, u49, u50, u51, u52, u53, u54, u55, u56, u57, u58, u59, u60, u61, u62, u63, u64, u65, u66], defers := D } W) : ∀ a W, OutI w s a W → P a W := by
  intro a W h
  obtain ⟨t, n, d, vt, vf, vh, gs, B, more, D, h⟩ := h
  obtain ⟨u1, h⟩ := h
  obtain ⟨u3, h⟩ := h
  obtain ⟨u4, h⟩ := h
  obtain ⟨u5, h⟩ := h
  obtain ⟨u11, h⟩ := h
  obtain ⟨u12, h⟩ := h
  obtain ⟨u13, h⟩ := h
  obtain ⟨u14, h⟩ := h
  obtain ⟨u15, h⟩ := h
  obtain ⟨u16, h⟩ := h
  obtain ⟨u17, h⟩ := h
  obtain ⟨u18, h⟩ := h
  obtain ⟨u19, h⟩ := h
  obtain ⟨u20, h⟩ := h
  obtain ⟨u21, h⟩ := h
  obtain ⟨u22, h⟩ := h
  obtain ⟨u23, h⟩ := h
  obtain ⟨u24, h⟩ := h
  obtain ⟨u25, h⟩ := h
  obtain ⟨u26, h⟩ := h
  obtain ⟨u27, h⟩ := h
  obtain ⟨u28, h⟩ := h
  obtain ⟨u29, h⟩ := h
  obtain ⟨u30, h⟩ := h
  obtain ⟨u31, h⟩ := h
  obtain ⟨u32, h⟩ := h
  obtain ⟨u33, h⟩ := h
  obtain ⟨u34, h⟩ := h
  obtain ⟨u35, h⟩ := h
  obtain ⟨u36, h⟩ := h
  obtain ⟨u37, h⟩ := h
  obtain ⟨u38, h⟩ := h
  obtain ⟨u39, h⟩ := h
  obtain ⟨u40, h⟩ := h
  obtain ⟨u41, h⟩ := h
  obtain ⟨u42, h⟩ := h
  obtain ⟨u43, h⟩ := h
  obtain ⟨u44, h⟩ := h
  obtain ⟨u45, h⟩ := h
  obtain ⟨u46, h⟩ := h
  obtain ⟨u47, h⟩ := h
  obtain ⟨u48, h⟩ := h
  obtain ⟨u49, h⟩ := h
  obtain ⟨u50, h⟩ := h
  obtain ⟨u51, h⟩ := h
  obtain ⟨u52, h⟩ := h
  obtain ⟨u53, h⟩ := h
  obtain ⟨u54, h⟩ := h
  obtain ⟨u55, h⟩ := h
  obtain ⟨u56, h⟩ := h
  obtain ⟨u57, h⟩ := h
  obtain ⟨u58, h⟩ := h
  obtain ⟨u59, h⟩ := h
  obtain ⟨u60, h⟩ := h
  obtain ⟨u61, h⟩ := h
  obtain ⟨u62, h⟩ := h
  obtain ⟨u63, h⟩ := h
  obtain ⟨u64, h⟩ := h
  obtain ⟨u65, h⟩ := h
  obtain ⟨u66, h⟩ := h
  obtain ⟨h1, e⟩ := h
  rw [e]
  exact H t n d vt vf vh gs B more D u1 u3 u4 u5 u11 u12 u13 u14 u15 u16 u17 u18 u19 u20 u21 u22 u23 u24 u25 u26 u27 u28 u29 u30 u31 u32 u33 u34 u35 u36 u37 u38 u39 u40 u41 u42 u43 u44 u45 u46 u47 u48 u49 u50 u51 u52 u53 u54 u55 u56 u57 u58 u59 u60 u61 u62 u63 u64 u65 u66 W h1
theorem PS.start (w : World) (s : Bt) : PS w s s 0 dr0 (.slice none 0 0) (.slice none 0 0) (.slice none 0 0) [] (w.heap.size + 1 + 1 + 1 + 1) true [] ((((w.alloc nilM).alloc (.cells #[.slice none 0 0, .slice none 0 0, .slice none 0 0] 42)).alloc (.cells #[.int .i64 0] 26)).alloc (.cells #[.int .i64 0] 3)) := by
  have hb0 := Below.one (Below.refl _ w) nilM
  have hb1 := Below.one hb0 (.cells #[.slice none 0 0, .slice none 0 0, .slice none 0 0] 42)
  have hb2 := Below.one hb1 (.cells #[.int .i64 0] 26)
  have hb3 := Below.one hb2 (.cells #[.int .i64 0] 3)
  have up : ∀ {W : World} {k : Nat} {cs : Array Value} {t : TypeId}, W.heap[k]? = some (.cells cs t) → ∀ o, (W.alloc o).heap[k]? = some (.cells cs t) := fun h o => ((Below.one (Below.refl _ _) o).block _ (Array.getElem?_eq_some_iff.1 h).1).trans h
  have hm := heap_alloc_new w nilM
  have hd := heap_alloc_new (w.alloc nilM) (.cells #[.slice none 0 0, .slice none 0 0, .slice none 0 0] 42)
  have he := heap_alloc_new ((w.alloc nilM).alloc (.cells #[.slice none 0 0, .slice none 0 0, .slice none 0 0] 42)) (.cells #[.int .i64 0] 26)
  have ha := heap_alloc_new (((w.alloc nilM).alloc (.cells #[.slice none 0 0, .slice none 0 0, .slice none 0 0] 42)).alloc (.cells #[.int .i64 0] 26)) (.cells #[.int .i64 0] 3)
  simp only [World.size_alloc] at hd he ha
  refine ⟨hb3, up (up (up hm _) _) _, up he _, ha, ⟨up (up hd _) _, World.ownsRow_nil _ _ _ _, World.ownsRow_nil _ _ _ _, World.ownsRow_nil _ _ _ _, Tr.nil, fun g hg => by simp at hg, Nat.le_refl _, by simp, fun hd g e => by simp at e, List.Pairwise.nil⟩, PrI.start, rfl, by simp, by simp, Mk.nil _ _⟩
theorem PS.stay {w : World} {s t : Bt} {n : Nat} {d : Dr} {vt vf vh : Value} {gs : List Fn} {B : Nat} {more : Bool} {D : List Deferred} {W W' : World} (h : PS w s t n d vt vf vh gs B more D W) (hb : Below W.heap.size W W') : PS w s t n d vt vf vh gs B more D W' :=
  ⟨Below.on h.b hb, (hb.block _ (Array.getElem?_eq_some_iff.1 h.m).1).trans h.m, boxed_stay h.e hb, boxed_stay h.a hb, h.dr.stay hb, h.pi, h.go, h.len, h.more, h.mark.stay hb⟩
theorem parZ_may {s : Bt} {d : Dr} (h : goZ (spl 10 s) 1 dr0 = .ok d) (hz : ckE d ≠ 0) : parZ s = ⟨dr0, ckE d, ckL d, 0⟩ := by
  unfold ckE at hz
  unfold parZ
  rw [h]
  simp only
  rw [if_neg hz]
  unfold ckE ckL
  rw [if_neg hz]
theorem parZ_ok {s : Bt} {d : Dr} (h : goZ (spl 10 s) 1 dr0 = .ok d) (hz : ckE d = 0) : parZ s = ⟨d, 0, 0, 0⟩ := by
  unfold ckE at hz
  unfold parZ
  rw [h]
  simp only
  rw [if_pos hz]
theorem parZ_bad {s : Bt} {e : Int} {n p : Nat} (h : goZ (spl 10 s) 1 dr0 = .error (e, n, p)) : parZ s = ⟨dr0, e, n, p⟩ := by
  unfold parZ
  rw [h]
/-- What the range over a line's words keeps: W1 is the world ahead of the line's row. -/
structure RgI (W1 : World) (n : Nat) (line : Bt) (pre : List (Nat × Bt)) (W : World) : Prop where
  b : Below W1.heap.size W1 W
  r : ∃ r v, RwAt W1.heap.size W1.heap.size n r v W ∧ rowZ n rs0 pre = .ok r
  bx : W.heap[W1.heap.size + 1]? = some (.cells #[.string (tb line)] 9)
theorem RgI.own (W1 : World) (n : Nat) (line : Bt) {B : Nat} (hB : W1.heap.size ≤ B) : OwnFrom B (RgI W1 n line) := by
  rintro pre X Y row ⟨h1, ⟨r, v, h2, h3⟩, h4⟩ hg hr
  exact ⟨h1.grown hg h1.size (fun k e => Nat.le_trans hB (hr k e).1), ⟨r, v, h2.grown hg (fun k e => (hr k e).2), h3⟩, cells_grown h4 hg (fun k e => (hr k e).2)⟩
theorem RgI.start (W1 : World) (n : Nat) (line : Bt) : RgI W1 (n + 1) line [] ((W1.alloc (.cells #[.int .i64 ((n : Int) + 1), .int .i64 0, .int .i64 0, .string ⟨#[]⟩, .slice none 0 0] 46)).alloc (.cells #[.string (tb line)] 9)) := by
  have hb := Below.one (Below.one (Below.refl _ W1) (.cells #[.int .i64 ((n : Int) + 1), .int .i64 0, .int .i64 0, .string ⟨#[]⟩, .slice none 0 0] 46)) (.cells #[.string (tb line)] 9)
  have h1 := heap_alloc_new W1 (.cells #[.int .i64 ((n : Int) + 1), .int .i64 0, .int .i64 0, .string ⟨#[]⟩, .slice none 0 0] 46)
  have h2 := heap_alloc_new (W1.alloc (.cells #[.int .i64 ((n : Int) + 1), .int .i64 0, .int .i64 0, .string ⟨#[]⟩, .slice none 0 0] 46)) (.cells #[.string (tb line)] 9)
  rw [World.size_alloc] at h2
  refine ⟨hb, ⟨rs0, .slice none 0 0, ⟨?_, World.ownsRow_nil _ _ _ _, Nat.le_refl _⟩, rfl⟩, h2⟩
  exact ((Below.one (Below.refl _ _) _).block _ (Array.getElem?_eq_some_iff.1 h1).1).trans h1
structure RgX (w W1 : World) (n : Nat) (c : Code) (pre : List (Nat × Bt)) (W : World) : Prop where
  c : c = .exit 0
  e : ∃ q : Int × Nat, rowZ n rs0 pre = .error q ∧ q.1 ≠ 0 ∧ Boxed W (w.heap.size + 1 + 1) 26 (.int .i64 q.1) ∧ Boxed W (w.heap.size + 1 + 1 + 1) 3 (.int .i64 (q.2 : Nat))
  b : Below w.heap.size w W
  m : W.heap[w.heap.size]? = some nilM
  k : ∀ (k : Nat) (o : Obj), W1.heap[k]? = some o → o.isCells = false → W.heap[k]? = some o
theorem RgX.own (w W1 : World) (n : Nat) (c : Code) {B : Nat} (h0 : w.heap.size ≤ W1.heap.size) (hB : W1.heap.size ≤ B) : OwnFrom B (RgX w W1 n c) := by
  rintro pre X Y row ⟨h1, ⟨q, h2, h3, h4, h5⟩, h6, h7, h8⟩ hg hr
  refine ⟨h1, ⟨q, h2, h3, boxed_grown h4 hg (fun k e => (hr k e).2), boxed_grown h5 hg (fun k e => (hr k e).2)⟩, h6.grown hg h6.size (fun k e => by have := (hr k e).1; omega), cells_grown h7 hg (fun k e => (hr k e).2), fun k o hk ho => ?_⟩
  have hx := h8 k o hk ho
  refine (hg.block k (Array.getElem?_eq_some_iff.1 hx).1 (fun e => ?_)).trans hx
  have := (hr k e.symm).1
  have := (Array.getElem?_eq_some_iff.1 hk).1
  omega
set_option maxRecDepth 100000 in
theorem end_err (w : World) (s : Bt) (W : World) (D : List Deferred) (ev nv : Int) (nn pp : Nat) (u0 u1 u3 u4 u5 u10 u11 u12 u13 u14 u15 u16 u17 u18 u19 u20 u21 u22 u23 u24 u25 u26 u27 u28 u29 u30 u31 u32 u33 u34 u35 u36 u37 u38 u39 u40 u41 u42 u43 u44 u45 u46 u47 u48 u49 u50 u51 u52 u53 u54 u55 u56 u57 u58 u59 u60 u61 u62 u63 u64 u65 u66 : Value) (hz : goZ (spl 10 s) 1 dr0 = .error (ev, nn, pp)) (hnv : nv = nn) (hne : ev ≠ 0) (hb : Below w.heap.size w W) (hm : W.heap[w.heap.size]? = some nilM)
    (he : Boxed W (w.heap.size + 1 + 1) 26 (.int .i64 ev)) (ha : Boxed W (w.heap.size + 1 + 1 + 1) 3 (.int .i64 (pp : Nat))) (hD : Mk w.heap.size D W) :
    tailC.wpIn Fence.wide 6 Tryz.prog (Exit.noGoto (bodyPostM Fence.wide 6 Tryz.prog Tryz.f4 (PaQ w s))) { tmps := #[u0, u1, .pointer (some ⟨w.heap.size, 0, none⟩), u3, u4, u5, .pointer (some ⟨w.heap.size + 1, 0, none⟩), .pointer (some ⟨w.heap.size + 1 + 1, 0, none⟩), .int .i64 nv, .pointer (some ⟨w.heap.size + 1 + 1 + 1, 0, none⟩), u10, u11, u12, u13, u14, u15, u16, u17, u18, u19, u20, u21, u22, u23, u24, u25, u26, u27, u28, u29, u30, u31, u32, u33, u34, u35, u36, u37, u38, u39, u40, u41, u42, u43, u44, u45, u46, u47, u48, u49, u50, u51, u52, u53, u54, u55, u56, u57, u58, u59, u60, u61, u62, u63, u64, u65, u66], defers := D } W := by
  refine tail_err W D (w.heap.size) (w.heap.size + 1) (w.heap.size + 1 + 1) (w.heap.size + 1 + 1 + 1) ev nv pp _ _ _ _ _ _ _ _ _ _ _ _ _ _ _ _ _ _ _ _ _ _ _ _ _ _ _ _ _ _ _ _ _ _ _ _ _ _ _ _ _ _ _ _ _ _ _ _ _ _ _ _ _ _ _ _ _ _ _ _ _ _ _ (by omega) (by omega) hm he ha hne (Hid.mk' ?_)
  intros
  rw [Exit.noGoto_ret]
  refine leaf_err (ev := ev) (nn := nv) (av := pp) (by rw [parZ_bad hz, hnv]) hne (fun W' hm => ?_) (Below.drew hb) hm hD.drew
  have m0 := cell_of_obj hm (j := 0) (v := .slice none 0 0) rfl
  have m1 := cell_of_obj hm (j := 1) (v := .slice none 0 0) rfl
  simp [results, Tryz.results4, go_sem, m0, m1, mo0, Mo.val]
theorem pre_at {α : Type} {L pre : List α} {x : α} (h : pre ++ [x] <+: L) : L[pre.length]? = some x := by
  obtain ⟨r, rfl⟩ := h
  simp
def strN : Value → Nat
  | .string s => s.size
  | _ => 0
set_option maxRecDepth 100000 in
set_option maxHeartbeats 8000000 in
theorem parse_in (s : Bt) (hs : s.length ≤ 140737488351232) (w : World) (h : Env w) : CallsIn Fence.wide 6 Tryz.prog 4 #[.string (tb s)] w (PaQ w s) := by
  refine callsIn_of_wp_marks Tryz.func4 rfl trivial ?_ rfl
  simp only [Tryz.ntmps4, List.size_toArray, List.length_cons, List.length_nil, Nat.reduceAdd, Nat.reduceSub, Array.replicate_succ, Array.replicate_zero, List.push_toArray, List.append_toArray, List.nil_append, List.cons_append]
  gi_wp2_with fail
  refine wpIn_scope ?_
  gi_wp2_with fail
  try (refine wpIn_label ?_; gi_wp2_with fail)
  rename_i K hK
  have HK := Hid.mk' hK
  clear hK
  refine wpIn_loop (OutI w s) (fun a _ => strN (a.tmps.getD 0 undef)) ⟨s, 0, dr0, _, _, _, [], _, true, [], _, _, _, _, _, _, _, _, _, _, _, _, _, _, _, _, _, _, _, _, _, _, _, _, _, _, _, _, _, _, _, _, _, _, _, _, _, _, _, _, _, _, _, _, _, _, _, _, _, _, _, _, _, _, _, _, _, _, _, _, PS.start w s, rfl⟩ ?_
  refine OutI.elim ?_
  intro t n d vt vf vh gs B more D u1 u3 u4 u5 u11 u12 u13 u14 u15 u16 u17 u18 u19 u20 u21 u22 u23 u24 u25 u26 u27 u28 u29 u30 u31 u32 u33 u34 u35 u36 u37 u38 u39 u40 u41 u42 u43 u44 u45 u46 u47 u48 u49 u50 u51 u52 u53 u54 u55 u56 u57 u58 u59 u60 u61 u62 u63 u64 u65 u66 W hP
  dsimp only
  have hsz := hP.a.lt
  have hEW := h.stay hP.b
  cases hmo : more
  · rw [hmo] at hP
    have hn0 : n ≠ 0 ∧ t = [] := by have := of_decide_eq_false hP.more.symm; simpa using this
    have hgo := hP.go
    rw [hn0.2, go_end _ _ (by omega)] at hgo
    gi_wp2_with fail
    refine HK.out _ _ ?_
    obtain ⟨ta, tc, rfl⟩ := gown_form hP.dr.ot
    obtain ⟨fa, fc, rfl⟩ := gown_form hP.dr.of
    refine tail_ok W D (w.heap.size + 1 + 1 + 1 + 1) (w.heap.size) (w.heap.size + 1) (w.heap.size + 1 + 1) (w.heap.size + 1 + 1 + 1) _ n d _ _ vh gs B _ _ _ _ _ _ _ _ _ _ _ _ _ _ _ _ _ _ _ _ _ _ _ _ _ _ _ _ _ _ _ _ _ _ _ _ _ _ _ _ _ _ _ _ _ _ _ _ _ _ _ _ _ _ _ _ _ _ _ _ _ _ _ (by omega) (by omega) (by omega) (by omega) hEW hP.dr (by have := hP.len; omega) hP.pi.ok hP.m hP.e hP.a (Hid.mk' ?_) (Hid.mk' ?_)
    · intro hz
      intros
      rename_i W1 hb1
      rw [Exit.noGoto_ret]
      have k2 := boxed_stay hP.e hb1
      have km := (hb1.block _ (Array.getElem?_eq_some_iff.1 hP.m).1).trans hP.m
      refine leaf_err (ev := ckE d) (nn := ckL d) (av := 0) (parZ_may hgo.symm hz) hz (fun W' hm => ?_) (Below.drew ((Below.on hP.b hb1).setCell (by simp only; omega) _)) ((Below.heap_setCell _ _ _ _ (by simp only; omega)).trans km) ((hP.mark.stay hb1).set k2 0 _).drew
      have m0 := cell_of_obj hm (j := 0) (v := .slice none 0 0) rfl
      have m1 := cell_of_obj hm (j := 1) (v := .slice none 0 0) rfl
      simp [results, Tryz.results4, go_sem, m0, m1, mo0, Mo.val]
    · intro hz
      intros
      rename_i W1 hb1
      rw [Exit.noGoto_ret]
      have km := (hb1.block _ (Array.getElem?_eq_some_iff.1 hP.m).1).trans hP.m
      have km2 := heap_setCell_same W1 _ 0 _ _ (.slice ta (d.ths.take 20).length tc) km
      have km3 := heap_setCell_same _ _ 1 _ _ (.slice fa gs.length fc) km2
      have D1 := ((hP.dr.stay hb1).set km (by decide) (by decide) (by decide) (by decide) (by decide) (by decide) 0 (.slice ta (d.ths.take 20).length tc)).set km2 (by decide) (by decide) (by decide) (by decide) (by decide) (by decide) 1 (.slice fa gs.length fc)
      refine leaf_ok (by omega) (parZ_ok hgo.symm hz) hz hP.pi.ok (fun W' hm => ?_) (((Below.on hP.b hb1).setCell (Nat.le_refl _) _).setCell (Nat.le_refl _) _) (by simpa using km3) D1 (((hP.mark.stay hb1).set km 0 _).set km2 1 _)
      have m0 := cell_of_obj hm (j := 0) (v := .slice ta (d.ths.take 20).length tc) rfl
      have m1 := cell_of_obj hm (j := 1) (v := .slice fa gs.length fc) rfl
      generalize (d.ths.take 20).length = tl at *
      simp [results, Tryz.results4, go_sem, m0, m1]
  · rw [hmo] at hP
    have hmt : n + 1 = 1 ∨ t ≠ [] := (of_decide_eq_true hP.more.symm).imp (fun e => by omega) id
    have hlen := hP.len
    obtain ⟨line, rest, en, hcut, hl1, hl2, hgo⟩ := cut_any t (by omega)
    have HGO := Hid.mk' (hP.go.symm.trans (hgo (n + 1) d hmt))
    clear hgo hmt
    have HCT := Hid.mk' hcut
    clear hcut
    generalize hT : tb t = T at *
    gi_wp2_with fail
    refine ⟨trivial, ?_⟩
    refine (callsIn_wide.2 (HCT.out W)).mono ?_
    rintro e W1 ⟨rfl, hb1⟩
    replace hP := hP.stay hb1
    have hsz := hP.a.lt
    have hE1 := h.stay hP.b
    clear hb1
    gi_wp2_with fail
    refine ⟨trivial, ?_⟩
    refine (callsIn_wide.2 (words_call (tb line) _)).mono ?_
    rintro e W2 ⟨rfl, hW2⟩
    have hF := RgI.start W1 n line
    rw [← hW2] at hF
    have hz2 : W2.heap.size = W1.heap.size + 1 + 1 := by rw [hW2]; simp
    have hx2 := hF.bx
    clear hW2
    gi_wp2_with fail
    refine range_o (m := 4) (gf := 24) (lb := #[.pointer (some ⟨W1.heap.size + 1, 0, none⟩)]) rfl (enters_of Tryz.func24 (by kernel_rfl) rfl) (words_o (W1.heap.size + 1) (tb line) (by rw [tb_size]; omega) W2 hx2) (Below.refl _ _) (fun _ => rfl) (fun h k => kpO_t h k) (fun W o' _ => kpO_b (by omega) (by omega) W o')
      (RgI W1 (n + 1) line) (RgX w W1 (n + 1)) (RgI.own W1 (n + 1) line (by omega)) (fun c => RgX.own w W1 (n + 1) c (by omega) (by omega)) hF (fun x a' _ => a' = { tmps := #[.string T, u1, .pointer (some ⟨w.heap.size, 0, none⟩), u3, u4, u5, .pointer (some ⟨w.heap.size + 1, 0, none⟩), .pointer (some ⟨w.heap.size + 1 + 1, 0, none⟩), .int .i64 ((n : Int) + 1), .pointer (some ⟨w.heap.size + 1 + 1 + 1, 0, none⟩), .bool true, .string (tb line), .string (tb rest), .bool en, .pointer (some ⟨W1.heap.size, 0, none⟩), .int .i64 (x.1 : Int), .string (tb x.2), .bool true, u18, u19, .tuple #[.string (tb line), .string (tb rest), .bool en], .string T, .tuple #[.string (tb line), .string (tb rest), .bool en], .string (tb line), .string (tb rest), .bool en, .int .i64 (n : Int), .int .i64 ((n : Int) + 1), .int .i64 ((n : Int) + 1), .agg #[.int .i64 ((n : Int) + 1), .int .i64 0, .int .i64 0, .string ⟨#[]⟩, .slice none 0 0], .string (tb line), .func (.func 24) #[] #[.pointer (some ⟨W1.heap.size + 1, 0, none⟩)], .int .i64 (x.1 : Int), .string (tb x.2), u34, u35, u36, u37, u38, u39, u40, u41, u42, u43, u44, u45, u46, u47, u48, u49, u50, u51, u52, u53, u54, u55, u56, u57, u58, u59, u60, u61, u62, u63, u64, u65, u66], defers := [] }) (fun _ _ _ _ _ _ h _ _ => h) ?assign ?body ?done ?stop
    case assign =>
      intro l pre x W hi _
      gi_wp2
      exact ⟨keepsFrom_refl' _ _, Nat.le_refl _, fun _ _ _ h _ => h, rfl⟩
    case body =>
      rintro l pre x a' W hi rfl hpx
      obtain ⟨hbW, ⟨r, v, hrw, hrow⟩, hbx⟩ := hi
      obtain ⟨lw1, lw2, lw3⟩ := line_words line
      have hmem : ∀ y ∈ pre ++ [x], y ∈ plc 0 (spl 32 line) := fun y hy => hpx.subset hy
      have hRI := RwI.row pre 0 rs0 r (RwI.start (n + 1) line.length) (fun y hy => (lw1 y (hmem y (by simp [hy]))).1) hrow
      have hx := lw1 x (hmem x (by simp))
      have hat : (plc 0 (spl 32 line))[pre.length]? = some x := pre_at hpx
      have hpl := (List.getElem?_eq_some_iff.1 hat).1
      have hge := plc_first _ 0 _ x hat
      have hwd := hRI.words
      have HT := Hid.mk' (take_any W1.heap.size W1.heap.size (n + 1) r v x.2 x.1 W (fun w' hb => hE1.stay (hbW.trans hb)) hrw hbW.size (by omega) (by omega) (by omega) hRI.kok (by omega) (fun _ => by omega) (by omega))
      have hrow2 := rowZ_app (n + 1) x pre rs0 r hrow
      have HX : Hid (∀ W', Below W1.heap.size W W' → Foot W1.heap.size v W W' → (Boxed W' (w.heap.size + 1 + 1) 26 (.int .i64 0) ∧ Boxed W' (w.heap.size + 1 + 1 + 1) 3 (.int .i64 0)) ∧ KeepsOthers W W' ∧ Below W1.heap.size W1 W' ∧ W'.heap[W1.heap.size + 1]? = some (.cells #[.string (tb line)] 9)) := fun W' hb hf => ⟨⟨boxed_stay hP.e (hbW.trans hb), boxed_stay hP.a (hbW.trans hb)⟩, foot_others hf hrw, hbW.trans hb, foot_cells hf hrw hbx (by decide) (by decide)⟩
      have HBX := Hid.mk' hbx
      have HR2 := Hid.mk' hrow2
      have HTE := Hid.mk' (fun e => tkZ_err (n := n + 1) (p := x.1) (r := r) (w := x.2) (e := e))
      clear hrow2 hbx hat hge hx hmem lw1 lw2 lw3 hRI hpl hpx hrow hwd hrw hbW hx2 hF
      obtain ⟨p, b⟩ := x
      simp only at HT HR2 HTE ⊢
      generalize tkZ (n + 1) r p b = z at *
      generalize tb b = bb at *
      cases z with
      | ok r' =>
        gi_wp2_with fail
        refine ⟨trivial, ?_⟩
        refine ((callsIn_wide.2 HT.out).inRound l).mono ?_
        rintro e W' ⟨hb', hf', rfl, v', hr'⟩
        obtain ⟨⟨k2, k3⟩, ko, kb, kx⟩ := HX.out W' hb' hf'
        have e2 := k2.cell
        have e3 := k3.cell
        have f2 := k2.frozen
        have f3 := k3.frozen
        have HS := Hid.mk' (And.intro (setCell_same k2) (setCell_same k3))
        have HKK := Hid.mk' (And.intro ko (And.intro kb (And.intro kx hr')))
        clear k2 k3 ko kb kx hr' hb' hf' HX HT
        gi_wp2_with fail
        rw [HS.out.1, HS.out.2]
        obtain ⟨ko, kb, kx, hr'⟩ := HKK.out
        exact ⟨ko.from _, ⟨ko.size, fun k o _ hk hw => ko.same k o hk (Obj.not_cells_of_walk hw), kx.trans HBX.out.symm⟩, kb, ⟨r', v', hr', HR2.out⟩, kx⟩
      | error q =>
        have hq0 := HTE.out q rfl
        have hq : (q.1 != 0) = true := bne_of hq0
        have HQ0 := Hid.mk' hq0
        clear hq0
        gi_wp2_with fail
        refine ⟨trivial, ?_⟩
        refine ((callsIn_wide.2 HT.out).inRound l).mono ?_
        rintro e W' ⟨hb', hf', rfl⟩
        obtain ⟨⟨k2, k3⟩, ko, kb, kx⟩ := HX.out W' hb' hf'
        have e2 := k2.cell
        have e3 := k3.cell
        have f2 := k2.frozen
        have f3 := k3.frozen
        have HKK := Hid.mk' (And.intro ko (And.intro kb (And.intro kx (And.intro k2 k3))))
        clear k2 k3 ko kb kx hb' hf' HX HT
        gi_wp2_with fail
        obtain ⟨ko, kb, kx, k2, k3⟩ := HKK.out
        have ks := (KeepsOthers.setCell W' ⟨w.heap.size + 1 + 1, 0, none⟩ (.int .i64 q.1)).trans (KeepsOthers.setCell _ ⟨w.heap.size + 1 + 1 + 1, 0, none⟩ (.int .i64 (q.2 : Nat)))
        have kt := ko.trans ks
        have km := (kb.block _ (Array.getElem?_eq_some_iff.1 hP.m).1).trans hP.m
        have hN1 := hP.b.size
        refine ⟨kt.from _, ⟨kt.size, fun k o _ hk hw => kt.same k o hk (Obj.not_cells_of_walk hw), ?_⟩, rfl, ⟨q, HR2.out, HQ0.out, (k2.set _).other (by omega) _, (k3.other (by omega) _).set _⟩, ?_, ?_, fun k o hk ho => ks.same k o ((kb.block _ (Array.getElem?_eq_some_iff.1 hk).1).trans hk) ho⟩
        · exact ((Below.heap_setCell _ _ _ _ (by simp only; omega)).trans ((Below.heap_setCell _ _ _ _ (by simp only; omega)).trans kx)).trans HBX.out.symm
        · exact ((hP.b.trans (kb.mono hN1)).setCell (by simp only; omega) _).setCell (by simp only; omega) _
        · exact (Below.heap_setCell _ _ _ _ (by simp only; omega)).trans ((Below.heap_setCell _ _ _ _ (by simp only; omega)).trans km)
    case done =>
      intro W3 hi hK3
      obtain ⟨hb3, ⟨r, v, hrw, hrow⟩, _⟩ := hi
      replace hrow : rowZ (n + 1) rs0 (plc 0 (spl 32 line)) = .ok r := hrow
      have hLI := row_line hrow
      have hDn := hP.mark.cons (fun k o hk _ => (hb3.block _ (Array.getElem?_eq_some_iff.1 hk).1).trans hk) (by omega) (by omega) hK3
      rw [hz2] at hDn
      replace hP := hP.stay hb3
      have hsz3 := hb3.size
      have k2 := hP.e
      have k3 := hP.a
      have e2 := k2.cell
      have e3 := k3.cell
      have f2 := k2.frozen
      have f3 := k3.frozen
      have hgz := HGO.out
      have HIN : Hid (∀ (W : World) (D : List Deferred), Below w.heap.size w W → W.heap[w.heap.size]? = some nilM → Boxed W (w.heap.size + 1 + 1) 26 (.int .i64 0) → Boxed W (w.heap.size + 1 + 1 + 1) 3 (.int .i64 0) → Mk w.heap.size D W → Below w.heap.size w ((W.setCell ⟨w.heap.size + 1 + 1, 0, none⟩ (.int .i64 6)).setCell ⟨w.heap.size + 1 + 1 + 1, 0, none⟩ (.int .i64 (line.length : Nat))) ∧ ((W.setCell ⟨w.heap.size + 1 + 1, 0, none⟩ (.int .i64 6)).setCell ⟨w.heap.size + 1 + 1 + 1, 0, none⟩ (.int .i64 (line.length : Nat))).heap[w.heap.size]? = some nilM ∧ Boxed ((W.setCell ⟨w.heap.size + 1 + 1, 0, none⟩ (.int .i64 6)).setCell ⟨w.heap.size + 1 + 1 + 1, 0, none⟩ (.int .i64 (line.length : Nat))) (w.heap.size + 1 + 1) 26 (.int .i64 6) ∧ Boxed ((W.setCell ⟨w.heap.size + 1 + 1, 0, none⟩ (.int .i64 6)).setCell ⟨w.heap.size + 1 + 1 + 1, 0, none⟩ (.int .i64 (line.length : Nat))) (w.heap.size + 1 + 1 + 1) 3 (.int .i64 (line.length : Nat)) ∧ Mk w.heap.size D ((W.setCell ⟨w.heap.size + 1 + 1, 0, none⟩ (.int .i64 6)).setCell ⟨w.heap.size + 1 + 1 + 1, 0, none⟩ (.int .i64 (line.length : Nat)))) := fun W D h1 h2 h3 h4 h5 => ⟨(h1.setCell (by simp only; omega) _).setCell (by simp only; omega) _, (Below.heap_setCell _ _ _ _ (by simp only; omega)).trans ((Below.heap_setCell _ _ _ _ (by simp only; omega)).trans h2), (h3.set _).other (by omega) _, (h4.other (by omega) _).set _, (h5.set h3 0 _).set (h4.other (by omega) _) 0 _⟩
      cases en
      · rw [line_short hrow rfl] at hgz
        have hu : undef = Value.tuple #[] := rfl
        have HGZ := Hid.mk' hgz
        have HPP := Hid.mk' hP
        have HDN := Hid.mk' hDn
        clear hgz hP hDn hrw hLI hb3
        gi_wp2_with fail
        refine ⟨trivial, ?_⟩
        gi_wp2_with fail
        refine HK.out _ _ ?_
        have hP := HPP.out
        obtain ⟨g1, g2, g3, g4, g5⟩ := HIN.out W3 _ hP.b hP.m hP.e hP.a HDN.out
        exact end_err w s _ _ 6 _ (n + 1) line.length _ _ _ _ _ _ _ _ _ _ _ _ _ _ _ _ _ _ _ _ _ _ _ _ _ _ _ _ _ _ _ _ _ _ _ _ _ _ _ _ _ _ _ _ _ _ _ _ _ _ _ _ _ _ _ _ _ _ _ _ _ _ HGZ.out (by simp) (by decide) g1 g2 g3 g4 g5
      · have hE3 := h.stay hP.b
        have HW := Hid.mk' (whole_any W1.heap.size W1.heap.size (n + 1) r v W3 hE3 hrw hLI.kind (by have := hLI.words; omega))
        have HGZ := Hid.mk' hgz
        have HPP := Hid.mk' hP
        have HDN := Hid.mk' hDn
        have HLI := Hid.mk' hLI
        have HRW := Hid.mk' hrw
        clear hgz hP hDn hrw hLI hb3 hE3
        gi_wp2_with fail
        refine ⟨trivial, ?_⟩
        refine (callsIn_wide.2 HW.out).mono ?_
        rintro e W4 ⟨rfl, hb4⟩
        have hP := HPP.out.stay hb4
        have hD4 := HDN.out.stay hb4
        have hrw := HRW.out.stay hb4
        have hsz4 := hb4.size
        replace k2 := hP.e
        replace k3 := hP.a
        replace e2 := k2.cell
        replace e3 := k3.cell
        replace f2 := k2.frozen
        replace f3 := k3.frozen
        cases hw : whole r
        · have hgz := HGZ.out
          rw [line_short hrow (by rw [hw]; rfl)] at hgz
          have HG2 := Hid.mk' hgz
          have HP4 := Hid.mk' hP
          have HD4 := Hid.mk' hD4
          clear hgz hP hD4 hrw HPP HDN HRW hb4
          gi_wp2_with fail
          refine HK.out _ _ ?_
          have hP := HP4.out
          obtain ⟨g1, g2, g3, g4, g5⟩ := HIN.out W4 _ hP.b hP.m hP.e hP.a HD4.out
          exact end_err w s _ _ 6 _ (n + 1) line.length _ _ _ _ _ _ _ _ _ _ _ _ _ _ _ _ _ _ _ _ _ _ _ _ _ _ _ _ _ _ _ _ _ _ _ _ _ _ _ _ _ _ _ _ _ _ _ _ _ _ _ _ _ _ _ _ _ _ _ _ _ _ HG2.out (by simp) (by decide) g1 g2 g3 g4 g5
        · have hgz := HGZ.out
          rw [line_ok hrow hw] at hgz
          simp only at hgz
          obtain ⟨c0, c1, c2, c3, c4⟩ := hrw.cell
          have hLI := HLI.out
          have ha := (add_any (w.heap.size + 1 + 1 + 1 + 1) (w.heap.size + 1) d vt vf vh gs B W4 (n + 1) (by omega) r v (h.stay hP.b) (by omega) hP.dr hP.pi.ok.len (own_mono hrw.ow (by omega)) hLI.kind hw (hLI.hnl hw) hLI.hni (fun h0 => hP.pi.fs (by have := hLI.one.2.2 h0; omega)) hLI.ok (by have := hLI.name; omega))
          rw [show ((n + 1 : Nat) : Int) = (n : Int) + 1 by omega] at ha
          have HA := Hid.mk' ha
          have HG2 := Hid.mk' hgz
          have HP4 := Hid.mk' hP
          have HD4 := Hid.mk' hD4
          have HL1 := Hid.mk' hl1
          have HTT := Hid.mk' hT
          clear hgz hP hD4 hrw HPP HDN HRW hb4 hLI ha k2 k3 e2 e3 f2 f3 hl1 hT
          gi_wp2_with fail
          refine ⟨trivial, ?_⟩
          refine (callsIn_wide.2 HA.out).mono ?_
          rintro e W5 ⟨rfl, hbb, vt', vf', vh', gs', B', hd5⟩
          have HBB := Hid.mk' hbb
          have HD5 := Hid.mk' hd5
          clear hbb hd5 c0 c1 c2 c3 c4
          gi_wp2_with fail
          have hP := HP4.out
          have hbb := HBB.out
          have hl := HL1.out (by simp)
          have hmm : (!List.isEmpty rest) = decide (n + 1 = 0 ∨ rest ≠ []) := by cases rest <;> simp
          rw [show (n : Int) + 1 = ((n + 1 : Nat) : Int) by omega]
          refine ⟨⟨rest, n + 1, addZ d (n + 1) r, vt', vf', vh', gs', B', _, _, _, _, _, _, _, _, _, _, _, _, _, _, _, _, _, _, _, _, _, _, _, _, _, _, _, _, _, _, _, _, _, _, _, _, _, _, _, _, _, _, _, _, _, _, _, _, _, _, _, _, _, _, _, _, _, _, _, _, _, _, ⟨hbb.below hP.b (by omega) (by omega) (by omega), hbb.cells hP.m (by omega) (by omega), hbb.cells hP.e (by omega) (by omega), hbb.cells hP.a (by omega) (by omega), HD5.out, hP.pi.next HLI.out, HG2.out.symm, by omega, hmm, HD4.out.keep hbb.oth⟩, rfl⟩, ?_⟩
          show (tb rest).size < T.size
          rw [← HTT.out, tb_size, tb_size]
          omega
    case stop =>
      rintro c pre W3 hp ⟨rfl, ⟨q, h1, h2, h3, h4⟩, h5, h6, h7⟩ hK3
      have hgz := HGO.out
      obtain ⟨suf, hsuf⟩ := hp
      have hre := rowZ_err (n + 1) suf pre rs0 h1
      rw [hsuf] at hre
      rw [line_err en hre] at hgz
      have hDn := hP.mark.cons h7 (by omega) (by omega) hK3
      rw [hz2] at hDn
      gi_wp2_with fail
      refine HK.out _ _ ?_
      exact end_err w s W3 _ q.1 _ (n + 1) q.2 _ _ _ _ _ _ _ _ _ _ _ _ _ _ _ _ _ _ _ _ _ _ _ _ _ _ _ _ _ _ _ _ _ _ _ _ _ _ _ _ _ _ _ _ _ _ _ _ _ _ _ _ _ _ _ _ _ _ _ _ _ _ hgz (by simp) h2 h5 h6 h3 h4 hDn

theorem parse_full (s : Bt) (hs : s.length ≤ 140737488351232) (w : World) (h : Env w) : Calls Tryz.prog 4 #[.string (tb s)] w (PaQ w s) := callsIn_wide.1 (parse_in s hs w h)
theorem parse_any (s : Bt) (hs : s.length ≤ 140737488351232) (w : World) (h : Env w) : Calls Tryz.prog 4 #[.string (tb s)] w (PaP w s) := (parse_full s hs w h).mono fun _ _ h => h.to
end Go.Proofs.YtboidkmnkicoeaaGreatDoor
