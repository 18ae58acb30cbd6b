/- scan.All at every source that is not too long: its tokens, or what is wrong first, and where; nothing that lay has turned. -/
import Derived.Test.YtdlddloggjckmaaDoorG
namespace Go.Proofs.YtdlddloggjckmaaDoor
open Go.RowKit Go.Shelf
attribute [local go_sem] Oper.semAt_some

theorem kpT_t {Bs : Nat} {A B C : World} (h : KpT Bs A B) (k : KpT Bs B C) : KpT Bs A C := by
  obtain ⟨h1, h2, h3, h4⟩ := h
  obtain ⟨k1, k2, k3, k4⟩ := k
  refine ⟨Nat.le_trans h1 k1, fun b c f hb hc => ?_, k3.trans h3, k4.trans h4⟩
  have := h2 b c f hb hc
  exact (k2 b c f (this.trans hb) hc).trans this
theorem kpT_b {Bs : Nat} {w : World} (hB : Bs < w.heap.size) (h1 : 1 < w.heap.size) (W : World) (l : Nat) (o o' : Obj) (hl : w.heap.size ≤ l) (h : W.heap[l]? = some o) (hc : o.isCells = false) (_ : o.isWalk = false) : KpT Bs W (W.putObj l o') := by
  refine ⟨(grownBy_putObj' W l o').size, fun b c f hb _ => ?_, World.putObj_heap_other (by omega), World.putObj_heap_other (by omega)⟩
  refine World.putObj_heap_other ?_
  rintro rfl
  rw [hb] at h; cases h; cases hc
theorem kpT_alloc {Bs : Nat} (W : World) (o : Obj) (hB : Bs < W.heap.size) (h1 : 1 < W.heap.size) : KpT Bs W (W.alloc o) :=
  ⟨by simp, fun b _ _ hb _ => Below.heap_alloc W o b (Array.getElem?_eq_some_iff.1 hb).1, Below.heap_alloc W o _ hB, Below.heap_alloc W o _ h1⟩

/-- The box of the loop's token. -/
def TBox (W : World) (B : Nat) (x : It) : Prop := W.heap[B]? = some (.cells #[.int .i64 x.kind, .int .i64 x.at_, .string x.text, .int .i64 x.n] 33 (0, 0))

theorem tok_new (W : World) (x : It) : ∀ j u, (tokCells x)[j]? = some u → (W.alloc (.cells #[.int .i64 x.kind, .int .i64 x.at_, .string x.text, .int .i64 x.n] 33)).cell? ((⟨W.heap.size, 0, none⟩ : Addr).add j) = some u := by
  intro j u hj
  rw [Addr.add_lit]
  have hb : (W.alloc (.cells #[.int .i64 x.kind, .int .i64 x.at_, .string x.text, .int .i64 x.n] 33)).heap[W.heap.size]? = some (.cells #[.int .i64 x.kind, .int .i64 x.at_, .string x.text, .int .i64 x.n] 33 (0, 0)) := World.alloc_heap_new W _
  have hj' : (#[Value.int .i64 x.kind, .int .i64 x.at_, .string x.text, .int .i64 x.n] : Array Value)[j]? = some u := by
    have : (#[Value.int .i64 x.kind, .int .i64 x.at_, .string x.text, .int .i64 x.n] : Array Value)[j]? = (tokCells x)[j]? := by simp [tokCells]
    rw [this]; exact hj
  simp only [World.cell?, hb, Nat.zero_add]
  simpa using hj'

theorem set3 {W : World} {n : Nat} {u0 u1 u2 : Value} (c0 : Boxed W n 23 u0) (c1 : Boxed W (n + 1) 24 u1) (c2 : Boxed W (n + 1 + 1) 3 u2) (v0 v1 v2 : Value) (Z : World)
    (hZ : Z.heap = (((W.setCell ⟨n, 0, none⟩ v0).setCell ⟨n + 1, 0, none⟩ v1).setCell ⟨n + 1 + 1, 0, none⟩ v2).heap) : Boxed Z n 23 v0 ∧ Boxed Z (n + 1) 24 v1 ∧ Boxed Z (n + 1 + 1) 3 v2 ∧ KeepsOthers W Z := by
  have e : ∀ {B : Nat} {t : TypeId} {v : Value}, Boxed (((W.setCell ⟨n, 0, none⟩ v0).setCell ⟨n + 1, 0, none⟩ v1).setCell ⟨n + 1 + 1, 0, none⟩ v2) B t v → Boxed Z B t v := fun h => by unfold Boxed at *; rw [hZ]; exact h
  refine ⟨e (((c0.set v0).other (by omega) _).other (by omega) _), e (((c1.other (by omega) _).set v1).other (by omega) _), e (((c2.other (by omega) _).other (by omega) _).set v2), ?_⟩
  have hk := ((KeepsOthers.setCell W ⟨n, 0, none⟩ v0).trans (KeepsOthers.setCell _ ⟨n + 1, 0, none⟩ v1)).trans (KeepsOthers.setCell _ ⟨n + 1 + 1, 0, none⟩ v2)
  exact ⟨by rw [hZ]; exact hk.size, fun k o h1 h2 => by rw [hZ]; exact hk.same k o h1 h2⟩

theorem put_boxed {W : World} {B : Nat} {t : TypeId} {v : Value} (h : Boxed W B t v) {D : Nat} {o : Obj} (o' : Obj) (hD : W.heap[D]? = some o) (hc : o.isCells = false) : Boxed (W.putObj D o') B t v :=
  boxed_grown h (grownBy_putObj' W D o') (fun r e => by cases e; exact ⟨o, hD, hc⟩)

theorem owns_set3 {W : World} {n : Nat} {u0 u1 u2 : Value} (c0 : Boxed W n 23 u0) (c1 : Boxed W (n + 1) 24 u1) (c2 : Boxed W (n + 1 + 1) 3 u2) (v0 v1 v2 : Value) {base k : Nat} {v : Value} {xs : List Value} (h : W.ownsRow base 33 4 v k xs) :
    (((W.setCell ⟨n, 0, none⟩ v0).setCell ⟨n + 1, 0, none⟩ v1).setCell ⟨n + 1 + 1, 0, none⟩ v2).ownsRow base 33 4 v k xs := by
  have h0 := h.kept (grownBy_setCell' W n v0) (.inr (c0.not_row (by decide) h).symm)
  have d1 := c1.other (B' := n) (by omega) v0
  have h1 := h0.kept (grownBy_setCell' _ (n + 1) v1) (.inr (d1.not_row (by decide) h0).symm)
  have d2 := (c2.other (B' := n) (by omega) v0).other (B' := n + 1) (by omega) v1
  exact h1.kept (grownBy_setCell' _ (n + 1 + 1) v2) (.inr (d2.not_row (by decide) h1).symm)

theorem results_all (Z : World) (n : Nat) (v0 v1 v2 : Value) (c0 : Z.cell? ⟨n, 0, none⟩ = some v0) (c1 : Z.cell? ⟨n + 1, 0, none⟩ = some v1) (c2 : Z.cell? ⟨n + 1 + 1, 0, none⟩ = some v2)
    (a : Array Value) (h2 : a[2]? = some (.pointer (some ⟨n, 0, none⟩))) (h3 : a[3]? = some (.pointer (some ⟨n + 1, 0, none⟩))) (h4 : a[4]? = some (.pointer (some ⟨n + 1 + 1, 0, none⟩))) :
    (results Tryd.f10 a).run Tryd.prog Z = .ok (.tuple #[v0, v1, v2]) Z := by
  simp [results, Tryd.results10, go_sem, c0, c1, c2, h2, h3, h4]

set_option maxRecDepth 100000 in
set_option maxHeartbeats 2000000 in
theorem all_in (s : ByteArray) (w : World) (hs : ¬ 65536 < (s.size : Int)) (hv : VarOk w) : CallsIn Fence.wide 6 Tryd.prog 10 #[.string s] w (AllOut s w) := by
  have hitl := items_len s
  have h1w := hv.lt
  refine callsIn_of_wp_marks Tryd.func10 rfl trivial ?_ rfl
  simp only [Tryd.ntmps10, List.size_toArray, List.length_cons, List.length_nil, Nat.reduceAdd, Nat.reduceSub, Array.replicate_succ, Array.replicate_zero, List.push_toArray, List.append_toArray, List.nil_append, List.cons_append]
  gi_wp2_with fail
  refine ⟨trivial, ?_⟩
  refine (callsIn_wide.2 (steps_any _ _)).mono ?_
  rintro e w' ⟨rfl, rfl⟩
  gi_wp2_with fail
  obtain ⟨W0, hW0⟩ : ∃ W0, ((((w.alloc (.cells #[.slice none 0 0] 23)).alloc (.cells #[.int .i64 0] 24)).alloc (.cells #[.int .i64 0] 3)).alloc (.cells #[.slice none 0 0] 23)).alloc (.cells #[.string s] 9) = W0 := ⟨_, rfl⟩
  have hsz : W0.heap.size = w.heap.size + 1 + 1 + 1 + 1 + 1 := by rw [← hW0]; simp
  have b0 : Boxed W0 w.heap.size 23 (.slice none 0 0) := by rw [← hW0]; exact ((((Boxed.new w 23 _).alloc _).alloc _).alloc _).alloc _
  have b1 : Boxed W0 (w.heap.size + 1) 24 (.int .i64 0) := by
    rw [← hW0]; have := Boxed.new (w.alloc (.cells #[.slice none 0 0] 23)) 24 (.int .i64 0); rw [World.size_alloc] at this; exact ((this.alloc _).alloc _).alloc _
  have b2 : Boxed W0 (w.heap.size + 1 + 1) 3 (.int .i64 0) := by
    rw [← hW0]; have := Boxed.new ((w.alloc (.cells #[.slice none 0 0] 23)).alloc (.cells #[.int .i64 0] 24)) 3 (.int .i64 0); rw [World.size_alloc, World.size_alloc] at this; exact (this.alloc _).alloc _
  have b3 : Boxed W0 (w.heap.size + 1 + 1 + 1) 23 (.slice none 0 0) := by
    rw [← hW0]; have := Boxed.new (((w.alloc (.cells #[.slice none 0 0] 23)).alloc (.cells #[.int .i64 0] 24)).alloc (.cells #[.int .i64 0] 3)) 23 (.slice none 0 0); rw [World.size_alloc, World.size_alloc, World.size_alloc] at this; exact this.alloc _
  have b4 : Boxed W0 (w.heap.size + 1 + 1 + 1 + 1) 9 (.string s) := by
    rw [← hW0]; have := Boxed.new ((((w.alloc (.cells #[.slice none 0 0] 23)).alloc (.cells #[.int .i64 0] 24)).alloc (.cells #[.int .i64 0] 3)).alloc (.cells #[.slice none 0 0] 23)) 9 (.string s); rw [World.size_alloc, World.size_alloc, World.size_alloc, World.size_alloc] at this; exact this
  have hB0 : Below w.heap.size w W0 := by
    rw [← hW0]; exact (((((Below.refl _ w).alloc (Nat.le_refl _) _).alloc (by simp) _).alloc (by simp; omega) _).alloc (by simp; omega) _).alloc (by simp; omega) _
  rw [hW0]
  clear hW0
  have hv0 := hv.below hB0
  refine wpIn_rangeFunc_ownH rfl (by omega) (gf := 32) (lb := #[.pointer (some ⟨w.heap.size + 1 + 1 + 1 + 1, 0, none⟩)]) rfl trivial (enters_of Tryd.func32 (by kernel_rfl) rfl)
    (steps_stops 5 (w.heap.size + 1 + 1 + 1 + 1) (by omega) s (by omega) W0 b4.cell hv0) (fun h k => kpT_t h k) (kpT_b (by omega) (by omega)) (Below.refl _ _) (fun _ => rfl)
    (AllI s w) (AllX w) (allI_own s w _ (by omega)) (fun c => allX_own w _ (by omega) c)
    ⟨⟨⟨_, b3, World.ownsRow_nil _ _ _ _, by simp⟩, ⟨b0, b1, b2⟩, by simp, b4⟩, hB0⟩
    (fun x a' W => ∃ Bx, w.heap.size + 1 + 1 + 1 + 1 < Bx ∧ TBox W Bx x ∧ a' = { tmps := #[.string s, undef, .pointer (some ⟨w.heap.size, 0, none⟩), .pointer (some ⟨w.heap.size + 1, 0, none⟩), .pointer (some ⟨w.heap.size + 1 + 1, 0, none⟩), .pointer (some ⟨w.heap.size + 1 + 1 + 1, 0, none⟩), .pointer (some ⟨Bx, 0, none⟩), .int .i64 x.err, .string s, .int .i64 s.size, .bool false, .string s, .func (.func 32) #[] #[.pointer (some ⟨w.heap.size + 1 + 1 + 1 + 1, 0, none⟩)], tokV x.kind x.at_ x.text x.n, .int .i64 x.err, undef, undef, undef, undef, undef, undef, undef, undef, undef, undef], defers := [] })
    ?own ?assign ?body ?done ?stop
  case own =>
    rintro x a' _ W W' row ⟨Bx, h1, h2, h3⟩ hg hr
    refine ⟨Bx, h1, (hg.block Bx (Array.getElem?_eq_some_iff.1 h2).1 (fun e => ?_)).trans h2, h3⟩
    obtain ⟨_, o, ho, hc⟩ := hr Bx e.symm
    rw [show W.heap[Bx]? = _ from h2] at ho; cases ho; cases hc
  case assign =>
    rintro l pre x W K hi hK
    have hWs := hi.1.2.2.2.lt
    gi_wp2
    exact hK _ _ ((KeepsOthers.alloc _ _).from _) (kpT_alloc W _ (by omega) (by omega)) ((allI_own s w W0.heap.size (by omega)).alloc _ hi) ⟨W.heap.size, by omega, World.alloc_heap_new W _, rfl⟩
  case body =>
    rintro l pre x a' W hl ⟨r, hr⟩ hi ⟨Bx, hBx, tX, rfl⟩ hlt
    obtain ⟨⟨⟨v, c3, hrow, hnil⟩, ⟨c0, c1, c2⟩, herr, c4⟩, hB⟩ := hi
    have e0 := c0.cell
    have e1 := c1.cell
    have e2 := c2.cell
    have e3 := c3.cell
    have f0 := c0.frozen
    have f1 := c1.frozen
    have f2 := c2.frozen
    have f3 := c3.frozen
    have t0 : W.cell? ⟨Bx, 0, none⟩ = some (.int .i64 x.kind) := by simp [World.cell?, show W.heap[Bx]? = _ from tX]
    have t1 : W.cell? ⟨Bx, 1, none⟩ = some (.int .i64 x.at_) := by simp [World.cell?, show W.heap[Bx]? = _ from tX]
    have t2 : W.cell? ⟨Bx, 2, none⟩ = some (.string x.text) := by simp [World.cell?, show W.heap[Bx]? = _ from tX]
    have t3 : W.cell? ⟨Bx, 3, none⟩ = some (.int .i64 x.n) := by simp [World.cell?, show W.heap[Bx]? = _ from tX]
    by_cases her : x.err = 0
    · have hvk : v = .slice none 0 0 ∨ 0 < pre.length := by
        cases pre with
        | nil => exact .inl (hnil.2 rfl)
        | cons _ _ => exact .inr (by simp)
      have hml : pre.length + 1 ≤ maxLen := by unfold maxLen; omega
      clear e0 e1 e2 f0 f1 f2 f3
      gi_wp2_with (gi_at_builtin; refine wpListIn_append_tok _ rfl _ _ rfl w.heap.size v pre.length (rowCells pre) rfl (hrow.alloc _) hvk ⟨W.heap.size, 0, none⟩ (tokCells x) rfl rfl (tok_new W x) (by simp [tokCells, Value.oneCell']) hml (by omega) (by have := hB.size; simp; omega) ?_; intro v' w1 hown' hgrow h4; obtain ⟨g', cap', rfl⟩ := ownsRow_succ hown'; obtain ⟨hv1, hv2, hr2, hk2, hb2⟩ := c3.appended (by decide) hrow hB.size (by omega) hown' hgrow; have hc1 := hv1.cell; have hf1 := hv1.frozen)
      have keep : ∀ {B : Nat} {t : TypeId} {u : Value}, Boxed W B t u → t ≠ 33 → B ≠ w.heap.size + 1 + 1 + 1 → Boxed (w1.setCell ⟨w.heap.size + 1 + 1 + 1, 0, none⟩ (.slice (some ⟨g', 0, none⟩) (pre.length + 1) cap')) B t u :=
        fun c ht hne => ((c.alloc _).kept hgrow (c.not_row ht hrow)).other hne _
      have c4' := keep c4 (by decide) (by omega)
      have htk : Tok4 W (w1.setCell ⟨w.heap.size + 1 + 1 + 1, 0, none⟩ (.slice (some ⟨g', 0, none⟩) (pre.length + 1) cap')) := ((tok4_of_none (World.grownBy_alloc W _ none)).trans h4).trans (tok4_set hv1 _)
      refine ⟨hk2.from _, ⟨hb2.size, htk, (show _ = _ from c4').trans (show _ = _ from c4).symm, hb2.block 1 h1w⟩, ⟨⟨_, hv2, ?_, by simp⟩, ⟨keep c0 (by decide) (by omega), keep c1 (by decide) (by omega), keep c2 (by decide) (by omega)⟩, ?_, c4'⟩, hB.trans hb2⟩
      · rw [rowCells_snoc, List.length_append]; exact hr2
      · intro y hy
        rcases List.mem_append.1 hy with h | h
        · exact herr y h
        · rw [List.mem_singleton.1 h]; exact her
    · have her2 : (x.err != 0) = true := by simpa using her
      have n0 : ¬ Bx = w.heap.size := by omega
      have n1 : ¬ Bx = w.heap.size + 1 := by omega
      have n2 : ¬ Bx = w.heap.size + 1 + 1 := by omega
      gi_wp2
      have mixed : Tryd.prog.follows Departure.mixedOrders = true := by kernel_rfl
      gi_region_with_o (fail)
      all_goals gi_wp2
      all_goals
        obtain ⟨z0, z1, z2, zk⟩ := set3 c0 c1 c2 (.slice none 0 0) (.int .i64 x.err) (.int .i64 x.at_) (((W.setCell ⟨w.heap.size, 0, none⟩ (.slice none 0 0)).setCell ⟨w.heap.size + 1, 0, none⟩ (.int .i64 x.err)).setCell ⟨w.heap.size + 1 + 1, 0, none⟩ (.int .i64 x.at_)).drew rfl
        exact ⟨zk.from _, ⟨pre, x, rfl, herr, her, rfl, z0, z1, z2⟩, ((((hB.setCell (p := ⟨w.heap.size, 0, none⟩) (Nat.le_refl _) _).setCell (p := ⟨w.heap.size + 1, 0, none⟩) (by show w.heap.size ≤ w.heap.size + 1; omega) _).setCell (p := ⟨w.heap.size + 1 + 1, 0, none⟩) (by show w.heap.size ≤ w.heap.size + 1 + 1; omega) _)).drew⟩
  case done =>
    rintro D ys W hD rfl ⟨⟨⟨v, c3, hrow, hnil⟩, ⟨c0, c1, c2⟩, herr, c4⟩, hB⟩ hK
    obtain ⟨bo, ln, cp, rfl⟩ : ∃ bo ln cp, v = .slice bo ln cp := by
      rcases hrow.2 with ⟨h, _⟩ | ⟨g, cap, _, h, _⟩
      · exact ⟨_, _, _, h⟩
      · exact ⟨_, _, _, h⟩
    have e0 := c0.cell
    have e1 := c1.cell
    have e2 := c2.cell
    have e3 := c3.cell
    have f0 := c0.frozen
    have f1 := c1.frozen
    have f2 := c2.frozen
    gi_wp2
    obtain ⟨z0, z1, z2, zk⟩ := set3 c0 c1 c2 (.slice bo ln cp) (.int .i64 0) (.int .i64 0) _ rfl
    have hZ := owns_set3 c0 c1 c2 (.slice bo ln cp) (.int .i64 0) (.int .i64 0) hrow
    have hBZ := ((hB.setCell (p := ⟨w.heap.size, 0, none⟩) (Nat.le_refl _) (.slice bo ln cp)).setCell (p := ⟨w.heap.size + 1, 0, none⟩) (by show w.heap.size ≤ w.heap.size + 1; omega) (.int .i64 0)).setCell (p := ⟨w.heap.size + 1 + 1, 0, none⟩) (by show w.heap.size ≤ w.heap.size + 1 + 1; omega) (.int .i64 0)
    have hKZ := zk.same D _ hK rfl
    refine ⟨by simp, .inl ⟨_, _, rfl, run_takeDeferred hKZ, ?_⟩⟩
    refine ⟨_, results_all _ w.heap.size _ _ _ (put_boxed z0 _ hKZ rfl).cell (put_boxed z1 _ hKZ rfl).cell (put_boxed z2 _ hKZ rfl).cell _ rfl rfl rfl, ?_⟩
    exact ⟨hBZ.trans (belowK_b (w := w) (Nat.le_refl _) _ D _ _ (by omega) hKZ rfl rfl), .inr ⟨herr, _, rfl, ownsRow_putObj hZ _ hKZ rfl⟩⟩
  case stop =>
    rintro D c pre W hD hS ⟨⟨pre', x, rfl, herr, her, rfl, c0, c1, c2⟩, hB⟩ hK
    gi_wp2
    refine ⟨by simp, .inl ⟨_, _, rfl, run_takeDeferred hK, ?_⟩⟩
    refine ⟨_, results_all _ w.heap.size _ _ _ (put_boxed c0 _ hK rfl).cell (put_boxed c1 _ hK rfl).cell (put_boxed c2 _ hK rfl).cell _ rfl rfl rfl, ?_⟩
    exact ⟨hB.trans (belowK_b (w := w) (Nat.le_refl _) _ D _ _ (by omega) hK rfl rfl), .inl ⟨pre', x, items_last hS her, herr, her, rfl⟩⟩

theorem all_any (s : ByteArray) (w : World) (hs : s.size ≤ 65536) (hv : VarOk w) : Calls Tryd.prog 10 #[.string s] w (AllOut s w) :=
  callsIn_wide.1 (all_in s w (by omega) hv)
end Go.Proofs.YtdlddloggjckmaaDoor
