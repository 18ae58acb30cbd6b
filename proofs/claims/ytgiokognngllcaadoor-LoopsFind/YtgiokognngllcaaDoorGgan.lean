/- dom.nearest. -/
import Derived.Test.YtgiokognngllcaaDoorGgam
namespace Go.Proofs.YtgiokognngllcaaDoor
open Go.RowKit Go.Shelf
attribute [local go_sem] Oper.semAt_some

theorem wpAnyH_takeL {P : Program} {Q : Exit → Act → World → Prop} {md : Region.Mode} {S : World → Prop} {l : List Oper} {i : Nat} {oi : Oper} {v : Value} {fuel : Nat} {listed : Array Bool} {a : Act} {w : World} (hi : l[i]? = some oi)
    (hs : Region.noSelect l.toArray = true) (hf : Region.free md l.toArray listed i = true) (hr : (Region.ready md l.toArray listed).contains i = true)
    (hQ : ∀ c a w, Q (.panic c) (a.put oi.dst v) w → Q (.panic c) a w) (hw : Region.wanted oi (yielded l.toArray a.tmps) = true) (hy : ∀ w, S w → (execOp a.eval oi).run P w = .ok (.value v) w) (hS : S w)
    (h : wpAnyH P md l.toArray Q S fuel (listed.setIfInBounds i true) (a.put oi.dst v) w) : wpAnyH P md l.toArray Q S (fuel + 1) listed a w :=
  wpAnyH_take (by simpa using hi) hs hf hr hQ (.inl ⟨hw, hy⟩) hS h
theorem simple_bin {P : Program} {o : Oper} (op : BinOp) (t u : TypeId) (x y : Operand) (h : o.op = .binOp op t x y u) : Simple P o := ⟨fun w ρ => (by unfold Oper.about; rw [h]), fun c e => (by rw [h] at e; cases e), fun w ρ => (by unfold execOp; simp only [h]; exact plain_v _ _ _)⟩
/-- What the loop holds. -/
structure NI (w : World) (N : Nat) (v : Value) (sz : List Nat) (size : Int) (pre : List Nat) (W : World) : Prop where
  v : Boxed W N 38 v
  s : Boxed W (N + 1) 3 (.int .i64 size)
  r : Boxed W (N + 1 + 1) 3 (.int .i64 0)
  b : Below w.heap.size w W
  n : ∀ a ∈ pre, ∀ s, sz[a]? = some s → (s : Int) ≠ size - 1
def NX (w : World) (N : Nat) (sz : List Nat) (size : Int) (c : Code) (pre : List Nat) (W : World) : Prop := c = .ret ∧ ∃ a s, a ∈ pre ∧ sz[a]? = some s ∧ (s : Int) = size - 1 ∧ Boxed W (N + 1 + 1) 3 (.int .i64 (a : Int)) ∧ Below w.heap.size w W
theorem NI.own (w : World) {N B : Nat} (v : Value) (sz : List Nat) (size : Int) (hB : w.heap.size ≤ B) : OwnFrom B (NI w N v sz size) := fun _ _ _ _ h hg hr =>
  ⟨boxed_grown h.v hg (fun r e => (hr r e).2), boxed_grown h.s hg (fun r e => (hr r e).2), boxed_grown h.r hg (fun r e => (hr r e).2), h.b.grown hg h.b.size (fun k e => Nat.le_trans hB (hr k e).1), h.n⟩
theorem NX.own (w : World) {N B : Nat} (sz : List Nat) (size : Int) (c : Code) (hB : w.heap.size ≤ B) : OwnFrom B (NX w N sz size c) := fun _ _ _ _ ⟨h1, a, s, h2, h3, h4, h5, h6⟩ hg hr =>
  ⟨h1, a, s, h2, h3, h4, boxed_grown h5 hg (fun r e => (hr r e).2), h6.grown hg h6.size (fun k e => Nat.le_trans hB (hr k e).1)⟩
def NeP (ws : List Nat) (sz : List Nat) (size : Int) (w : World) (e : Ending) (w' : World) : Prop :=
  ((e = .returned (.int .i64 (-1)) ∧ ∀ a s, hasW ws a = true → sz[a]? = some s → (s : Int) ≠ size - 1) ∨ ∃ a s : Nat, e = .returned (.int .i64 (a : Int)) ∧ hasW ws a = true ∧ sz[a]? = some s ∧ (s : Int) = size - 1) ∧ Below w.heap.size w w'
set_option maxRecDepth 100000 in
set_option maxHeartbeats 4000000 in
theorem nearest_in (R o : Nat) (ws sz : List Nat) (sa : Option Addr) (sc : Nat) (size : Int) (w : World) (hk : OkW ws) (hr : w.rangeAt R o (ws.map uV)) (hR : R < w.heap.size) (hG : 1 < w.heap.size) (hT : Tb w) (hl : Lst w sa (sz.map nV)) (hin : ∀ a, hasW ws a = true → a < sz.length) (hs0 : 0 ≤ size ∧ size ≤ 100000) : CallsIn Fence.wide 6 Tryd.prog 50 #[.pointer (some ⟨R, o, none⟩), .slice sa sz.length sc, .int .i64 size] w (NeP ws sz size w) := by
  have HSM : Hid (∀ w', Below w.heap.size w w' → SeqM 62 #[.pointer (some ⟨R, o, none⟩)] encN (KpR R) (upE ws 16) w') := fun w' hb => all_m R o ws hk w' (range_keep hr (hb.block _ hR)) (Nat.lt_of_lt_of_le hR hb.size) (Nat.lt_of_lt_of_le hG hb.size) (hT.keep (hb.block _ hG))
  have HME : Hid (∀ a, a ∈ upE ws 16 ↔ hasW ws a = true) := fun a => mem_upE hk
  have HIN := Hid.mk' hin
  have HL := Hid.mk' hl
  have HI0 : Hid (NI w w.heap.size (.slice sa sz.length sc) sz size [] (((w.alloc (.cells #[.slice sa sz.length sc] 38)).alloc (.cells #[.int .i64 size] 3)).alloc (.cells #[.int .i64 0] 3))) := by
    have b1 := ((Boxed.new w 38 (.slice sa sz.length sc)).alloc (.cells #[.int .i64 size] 3)).alloc (.cells #[.int .i64 0] 3)
    have b2 := (Boxed.new (w.alloc (.cells #[.slice sa sz.length sc] 38)) 3 (.int .i64 size)).alloc (.cells #[.int .i64 0] 3)
    have b3 := Boxed.new ((w.alloc (.cells #[.slice sa sz.length sc] 38)).alloc (.cells #[.int .i64 size] 3)) 3 (.int .i64 0)
    simp only [World.size_alloc] at b1 b2 b3
    exact ⟨b1, b2, b3, Below.one (Below.one (Below.one (Below.refl _ w) _) _) _, fun a ha => by cases ha⟩
  have HSZ : Hid ((((w.alloc (.cells #[.slice sa sz.length sc] 38)).alloc (.cells #[.int .i64 size] 3)).alloc (.cells #[.int .i64 0] 3)).heap.size = w.heap.size + 1 + 1 + 1) := (by simp only [World.size_alloc] : _ = _)
  clear hk hr hT hl hin
  refine callsIn_of_wp_marks Tryd.func50 rfl trivial ?_ rfl
  simp only [Tryd.ntmps50, List.size_toArray, List.length_cons, List.length_nil, Nat.reduceAdd, Nat.reduceSub, Array.replicate_succ, Array.replicate_zero, List.push_toArray, List.append_toArray, List.nil_append, List.cons_append]
  gi_wp2_with fail
  have hs5 := HSZ.out
  generalize ((w.alloc (.cells #[.slice sa sz.length sc] 38)).alloc (.cells #[.int .i64 size] 3)).alloc (.cells #[.int .i64 0] 3) = W5 at *
  refine range_m (m := 4) (gf := 62) (fst := #[.pointer (some ⟨R, o, none⟩)]) rfl (enters_of Tryd.func62 (by kernel_rfl) rfl) (HSM.out _ HI0.out.b) (Below.refl _ _) (fun _ => rfl) (fun h k => KpR.trans h k) (fun W o' _ => ⟨by simp, World.putObj_heap_other (by omega), World.putObj_heap_other (by omega)⟩)
    (NI w w.heap.size (.slice sa sz.length sc) sz size) (NX w w.heap.size sz size) (NI.own w _ _ _ (by omega)) (fun c => NX.own w _ _ c (by omega)) HI0.out (fun x a' _ => a' = { tmps := #[.pointer (some ⟨R, o, none⟩), .slice sa sz.length sc, .int .i64 size, undef, .pointer (some ⟨w.heap.size, 0, none⟩), .pointer (some ⟨w.heap.size + 1, 0, none⟩), .pointer (some ⟨w.heap.size + 1 + 1, 0, none⟩), .int .i64 (x : Int), .pointer (some ⟨R, o, none⟩), .func (.func 62) #[.pointer (some ⟨R, o, none⟩)] #[], .int .i64 (x : Int), undef, undef, undef, undef, undef, undef, undef, undef], defers := [] }) (fun x a' _ W W' row h _ _ => h) ?assign ?body ?done ?stop
  case assign =>
    intro l pre x W hi _
    gi_wp2
    exact ⟨keepsFrom_refl' _ _, KpR.refl _ _ _, hi, trivial⟩
  case body =>
    rintro l pre x a' W hi rfl hpx
    have hxm : x ∈ upE ws 16 := hpx.subset (by simp)
    have hxl := HIN.out x ((HME.out x).1 hxm)
    obtain ⟨b, oo, rfl, d0⟩ := lst_n (HL.out.stay hi.b) hxl
    have HAT : Hid (sz[x]? = some sz[x]) := List.getElem?_eq_getElem hxl
    have hxi : (x : Int) < (sz.length : Int) := by omega
    have HI := Hid.mk' hi
    have HS0 : Hid (W.drew.cell? ⟨w.heap.size, 0, none⟩ = some (.slice (some ⟨b, oo, none⟩) sz.length sc) ∧ W.drew.cell? ⟨w.heap.size + 1, 0, none⟩ = some (.int .i64 size) ∧ W.drew.cell? ⟨b, oo + x, none⟩ = some (.int .i64 ((sz[x] : Nat) : Int))) := ⟨hi.v.cell, hi.s.cell, d0⟩
    generalize sz[x] = s at *
    clear hi d0
    gi_wp2_with fail
    refine region_in (S := fun w' => w'.cell? ⟨w.heap.size, 0, none⟩ = some (.slice (some ⟨b, oo, none⟩) sz.length sc) ∧ w'.cell? ⟨w.heap.size + 1, 0, none⟩ = some (.int .i64 size) ∧ w'.cell? ⟨b, oo + x, none⟩ = some (.int .i64 (s : Int))) (by kernel_rfl) ?hq (simple_list ?hs) ?_
    case hq =>
      rintro ⟨a, w', h⟩
      exact h.2.2
    case hs =>
      intro o ho
      simp only [List.mem_cons, List.not_mem_nil, or_false] at ho
      rcases ho with rfl | rfl | rfl | rfl | rfl | rfl | rfl
      all_goals first
        | exact simple_load _ _ rfl
        | exact simple_move _ rfl
        | exact simple_index _ _ _ rfl
        | exact simple_bin _ _ _ _ _ rfl
    simp only [List.size_toArray, List.length_cons, List.length_nil, Nat.reduceAdd]
    refine wpAnyH_takeL (i := 0) (v := ?tv0) rfl (by kernel_rfl) (by kernel_rfl) (by kernel_rfl) (fun _ _ _ h => h) (by rfl) ?ty0 HS0.out ?tr0
    case ty0 => (intro w' hSw; obtain ⟨hs1, hs2, hs3⟩ := hSw; go_simp; try with_reducible rfl)
    simp only [Act.put, List.setIfInBounds_toArray, List.set_cons_zero, List.set_cons_succ]
    refine wpAnyH_takeL (i := 1) (v := ?tv1) rfl (by kernel_rfl) (by kernel_rfl) (by kernel_rfl) (fun _ _ _ h => h) (by rfl) ?ty1 HS0.out ?tr1
    case ty1 => (intro w' hSw; obtain ⟨hs1, hs2, hs3⟩ := hSw; go_simp; try with_reducible rfl)
    simp only [Act.put, List.setIfInBounds_toArray, List.set_cons_zero, List.set_cons_succ]
    refine wpAnyH_takeL (i := 2) (v := ?tv2) rfl (by kernel_rfl) (by kernel_rfl) (by kernel_rfl) (fun _ _ _ h => h) (by rfl) ?ty2 HS0.out ?tr2
    case ty2 => (intro w' hSw; obtain ⟨hs1, hs2, hs3⟩ := hSw; go_simp; try with_reducible rfl)
    simp only [Act.put, List.setIfInBounds_toArray, List.set_cons_zero, List.set_cons_succ]
    refine wpAnyH_takeL (i := 3) (v := ?tv3) rfl (by kernel_rfl) (by kernel_rfl) (by kernel_rfl) (fun _ _ _ h => h) (by rfl) ?ty3 HS0.out ?tr3
    case ty3 => (intro w' hSw; obtain ⟨hs1, hs2, hs3⟩ := hSw; go_simp; try with_reducible rfl)
    simp only [Act.put, List.setIfInBounds_toArray, List.set_cons_zero, List.set_cons_succ]
    refine wpAnyH_takeL (i := 4) (v := ?tv4) rfl (by kernel_rfl) (by kernel_rfl) (by kernel_rfl) (fun _ _ _ h => h) (by rfl) ?ty4 HS0.out ?tr4
    case ty4 => (intro w' hSw; obtain ⟨hs1, hs2, hs3⟩ := hSw; go_simp; try with_reducible rfl)
    simp only [Act.put, List.setIfInBounds_toArray, List.set_cons_zero, List.set_cons_succ]
    refine wpAnyH_takeL (i := 5) (v := ?tv5) rfl (by kernel_rfl) (by kernel_rfl) (by kernel_rfl) (fun _ _ _ h => h) (by rfl) ?ty5 HS0.out ?tr5
    case ty5 => (intro w' hSw; obtain ⟨hs1, hs2, hs3⟩ := hSw; go_simp; try with_reducible rfl)
    simp only [Act.put, List.setIfInBounds_toArray, List.set_cons_zero, List.set_cons_succ]
    refine wpAnyH_takeL (i := 6) (v := ?tv6) rfl (by kernel_rfl) (by kernel_rfl) (by kernel_rfl) (fun _ _ _ h => h) (by rfl) ?ty6 HS0.out ?tr6
    case ty6 => (intro w' hSw; obtain ⟨hs1, hs2, hs3⟩ := hSw; go_simp; try with_reducible rfl)
    simp only [Act.put, List.setIfInBounds_toArray, List.set_cons_zero, List.set_cons_succ]
    refine wpAnyH_done (by kernel_rfl) ?_ _
    have hwr : IntKind.i64.wrap (size - 1) = size - 1 := by rw [IntKind.wrap_i64]; omega
    have c6 : W.drew.cell? ⟨w.heap.size + 1 + 1, 0, none⟩ = some (.int .i64 0) := HI.out.r.cell
    have f6 : W.drew.frozen? ⟨w.heap.size + 1 + 1, 0, none⟩ = false := HI.out.r.frozen
    by_cases hE : (s : Int) = size - 1
    · have hq : ((s : Int) == size - 1) = true := by simp [hE]
      have HE := Hid.mk' hE
      simp only [hwr, hq]
      clear hE HS0 hwr
      gi_wp2
      refine ⟨(KeepsOthers.undrew (KeepsOthers.setCell W.drew _ _)).from _, ⟨by simp [World.setCell], heap_setCell_other W.drew ⟨w.heap.size + 1 + 1, 0, none⟩ R _ (show R ≠ w.heap.size + 1 + 1 by omega), heap_setCell_other W.drew ⟨w.heap.size + 1 + 1, 0, none⟩ _ _ (show 1 ≠ w.heap.size + 1 + 1 by omega)⟩, ?_⟩
      exact ⟨rfl, x, s, by simp, HAT.out, HE.out, Boxed.set (W := W.drew) _ HI.out.r, (Below.drew HI.out.b).setCell (by simp only; omega) _⟩
    · have hq : ((s : Int) == size - 1) = false := beq_no hE
      have HE := Hid.mk' hE
      simp only [hwr, hq]
      clear hE HS0 hwr
      gi_wp2
      refine ⟨(KeepsOthers.drew W).from _, ⟨Nat.le_refl _, rfl, rfl⟩, ?_⟩
      have h := HI.out
      refine ⟨h.v, h.s, h.r, Below.drew h.b, fun a ha t ht => ?_⟩
      rcases List.mem_append.1 ha with ha | ha
      · exact h.n a ha t ht
      · rw [List.mem_singleton] at ha
        subst ha
        rw [HAT.out] at ht
        cases ht
        exact HE.out
  case done =>
    rintro W hi hK
    have c6 := hi.r.cell
    have f6 := hi.r.frozen
    have HI := Hid.mk' hi
    have HALL : Hid (∀ a s, hasW ws a = true → sz[a]? = some s → (s : Int) ≠ size - 1) := fun a s h1 h2 => hi.n a ((HME.out a).2 h1) s h2
    clear hi
    gi_wp2
    have hKZ := (KeepsOthers.setCell W ⟨w.heap.size + 1 + 1, 0, none⟩ (.int .i64 (-1))).same _ _ hK rfl
    have z6 := HI.out.r.set (.int .i64 (-1))
    refine ⟨by simp, .inl ⟨_, _, rfl, run_takeDeferred hKZ, ?_⟩⟩
    have c7 := (put_boxed z6 (.deferred none) hKZ rfl).cell
    refine ⟨.int .i64 (-1), by simp [results, Tryd.results50, go_sem, c7], .inl ⟨rfl, HALL.out⟩, ?_⟩
    exact (HI.out.b.setCell (by simp only; omega) _).trans (belowK_b (w := w) (Nat.le_refl _) _ _ _ _ (by omega) hKZ rfl rfl)
  case stop =>
    rintro c pre W hS ⟨rfl, a, s, h1, h2, h3, h4, h5⟩ hK
    gi_wp2
    refine ⟨by simp, .inl ⟨_, _, rfl, run_takeDeferred hK, ?_⟩⟩
    have c7 := (put_boxed h4 (.deferred none) hK rfl).cell
    refine ⟨.int .i64 (a : Int), by simp [results, Tryd.results50, go_sem, c7], .inr ⟨a, s, rfl, (HME.out a).1 (hS.subset h1), h2, h3⟩, ?_⟩
    exact h5.trans (belowK_b (w := w) (Nat.le_refl _) _ _ _ _ (by omega) hK rfl rfl)
theorem nearest_any (R o : Nat) (ws sz : List Nat) (sa : Option Addr) (sc : Nat) (size : Int) (w : World) (hk : OkW ws) (hr : w.rangeAt R o (ws.map uV)) (hR : R < w.heap.size) (hG : 1 < w.heap.size) (hT : Tb w) (hl : Lst w sa (sz.map nV)) (hin : ∀ a, hasW ws a = true → a < sz.length) (hs0 : 0 ≤ size ∧ size ≤ 100000) : Calls Tryd.prog 50 #[.pointer (some ⟨R, o, none⟩), .slice sa sz.length sc, .int .i64 size] w (NeP ws sz size w) := callsIn_wide.1 (nearest_in R o ws sz sa sc size w hk hr hR hG hT hl hin hs0)
end Go.Proofs.YtgiokognngllcaaDoor

/- dom.Tree. -/
namespace Go.Proofs.YtgiokognngllcaaDoor
open Go.RowKit Go.Shelf

def TrAt (l : List Is) (v : Nat) (r : Int) : Prop := (r = -1 ∧ ¬ (Rch l v ∧ v ≠ 0)) ∨ ∃ k : Nat, r = (k : Int) ∧ Idm l v k
def szL (S : List (List Nat)) : List Nat := S.map sizeW
theorem szL_at {S : List (List Nat)} {v : Nat} (h : v < S.length) : (szL S)[v]? = some (sizeW (S.getD v [])) := by
  unfold szL
  rw [List.getElem?_map, List.getElem?_eq_getElem h, getD_at h]; rfl
theorem IsD.size {l : List Is} {S : List (List Nat)} (h : IsD l S) {v : Nat} (hv : v < S.length) : sizeW (S.getD v []) = dmC l v ∧ (∀ a, hasW (S.getD v []) a = true ↔ Dm l a v) ∧ 0 < l.length ∧ S.length = l.length := by
  rcases h with ⟨_, rfl⟩ | ⟨h1, h2, h3, h4, h5⟩
  · simp at hv
  · exact ⟨size_dm h1 (getD_ok h4 hv) (h5 v (by omega)), h5 v (by omega), h1, h3⟩
theorem near_tr {l : List Is} {S : List (List Nat)} (h : IsD l S) {v : Nat} (hv : v < S.length) {w w' : World} {e : Ending} (hn : NeP (S.getD v []) (szL S) ((sizeW (S.getD v []) : Nat) : Int) w e w') : ∃ r, e = .returned (.int .i64 r) ∧ TrAt l v r ∧ Below w.heap.size w w' := by
  obtain ⟨hs, hh, h0, hl⟩ := h.size hv
  obtain ⟨hn, hb⟩ := hn
  rcases hn with ⟨rfl, hn⟩ | ⟨a, s, rfl, h1, h2, h3⟩
  · refine ⟨-1, rfl, .inl ⟨rfl, fun ⟨hr, hz⟩ => ?_⟩, hb⟩
    obtain ⟨r, hi⟩ := idm_ex h0 hr hz
    have hrl : r < S.length := by rw [hl]; exact hi.1.left.lt h0
    refine hn r _ ((hh r).2 hi.1) (szL_at hrl) ?_
    rw [(h.size hrl).1, hs, hi.count h0]
    omega
  · have hd := (hh a).1 h1
    have hal : a < S.length := by rw [hl]; exact hd.left.lt h0
    rw [szL_at hal] at h2
    cases h2
    rw [(h.size hal).1, hs] at h3
    exact ⟨a, rfl, .inr ⟨a, rfl, idm_of h0 hd (by omega)⟩, hb⟩
/-- Whole numbers of the call's own. -/
def iV (z : Int) : Value := .int .i64 z
abbrev Oi (N : Nat) (l : List Int) (v : Value) (W : World) : Prop := W.ownsRow N 3 1 v l.length (l.map iV)
theorem oi_put {N : Nat} {rs : List Int} {g n c : Nat} {W : World} (h : Oi N rs (.slice (some ⟨g, 0, none⟩) n c) W) (i : Nat) (z : Int) : Oi N (rs.set i z) (.slice (some ⟨g, 0, none⟩) n c) (W.setCell ⟨g, i, none⟩ (.int .i64 z)) := by
  obtain ⟨a, k', e⟩ := gown_form h
  injection e with e1 e2 e3
  subst e2
  have := (World.ownsRow.stored h i (.int .i64 z)).1
  unfold Oi
  rw [List.length_set, List.map_set]
  exact this
theorem oi_mk (W : World) (n : Nat) (hn : n ≤ 1000000) : Oi W.heap.size (List.replicate n 0) (.slice (some ⟨W.heap.size, 0, none⟩) n n) (W.alloc (.cells (mkN n) 3)) := by
  have := own_mkN W n hn
  unfold On at this
  unfold Oi
  rw [List.length_replicate, List.map_replicate] at *
  exact this
theorem oi_at {N n c : Nat} {l : List Int} {g : Nat} {W : World} (h : Oi N l (.slice (some ⟨g, 0, none⟩) n c) W) {j : Nat} (hj : j < l.length) : W.cell? ⟨g, j, none⟩ = some (.int .i64 l[j]) := by
  obtain ⟨a, k', e⟩ := gown_form h
  injection e with e1 e2 e3
  subst e2
  have := h.cells (g := g) rfl j (.int .i64 l[j]) (by rw [List.getElem?_map, List.getElem?_eq_getElem hj]; rfl)
  rwa [Addr.add_lit, Nat.zero_add] at this
def szU (S : List (List Nat)) (j : Nat) : List Nat := (szL S).take j ++ List.replicate (S.length - j) 0
theorem szU_zero (S : List (List Nat)) : szU S 0 = List.replicate S.length 0 := by simp [szU]
theorem szU_all (S : List (List Nat)) : szU S S.length = szL S := by unfold szU; rw [List.take_of_length_le (by simp [szL]), Nat.sub_self]; simp
theorem part_set {α : Type} (xs : List α) (d : α) {n j : Nat} (hn : xs.length = n) (hj : j < n) : (xs.take j ++ List.replicate (n - j) d).set j (xs[j]'(by omega)) = xs.take (j + 1) ++ List.replicate (n - (j + 1)) d := by
  have hl : (xs.take j).length = j := by rw [List.length_take]; omega
  rw [List.set_append_right _ _ (by omega), hl, Nat.sub_self, show n - j = (n - (j + 1)) + 1 by omega, List.replicate_succ, List.set_cons_zero, List.take_succ_eq_append_getElem (by omega), List.append_assoc]
  rfl
theorem grow_set {α : Type} (xs : List α) (d x : α) {n j : Nat} (hn : xs.length = j) (hj : j < n) : (xs ++ List.replicate (n - j) d).set j x = (xs ++ [x]) ++ List.replicate (n - (j + 1)) d := by
  rw [List.set_append_right _ _ (by omega), hn, Nat.sub_self, show n - j = (n - (j + 1)) + 1 by omega, List.replicate_succ, List.set_cons_zero, List.append_assoc]
  rfl
def TrP (l : List Is) (w : World) (e : Ending) (w' : World) : Prop := ∃ g ts, e = .returned (.slice (some ⟨g, 0, none⟩) ts.length ts.length) ∧ IsT l ts ∧ Oi w.heap.size ts (.slice (some ⟨g, 0, none⟩) ts.length ts.length) w' ∧ Below w.heap.size w w'
set_option maxRecDepth 100000 in
set_option maxHeartbeats 4000000 in
theorem tree_any (f : Fn) (w : World) (hi : Iss w f.ca f.code) (hc : f.code.length ≤ f.cc) (hG : 1 < w.heap.size) (hT : Tb w) : Calls Tryd.prog 35 #[f.val] w (TrP f.code w) := by
  have HLE : Hid (∀ w', Below w.heap.size w w' → Calls Tryd.prog 48 #[f.val] w' (DoP f.code w')) := fun w' hb => dominators_any f w' (hi.stay hb) hc
  have HT := Hid.mk' hT
  have HG := Hid.mk' hG
  clear hi hc hT hG
  obtain ⟨fn, fpa, fpc, fps, frg, fwd, fca, fcc, fl⟩ := f
  unfold Fn.val at *
  simp only at HLE ⊢
  have HB := Hid.mk' (Below.one (Below.refl _ w) (.cells #[.string fn, .slice fpa fps.length fpc, .int .i64 frg, .int .i64 fwd, .slice fca fl.length fcc] 25))
  go_enter Tryd.func35, Tryd.ntmps35
  go_wp2_with fail
  refine (HLE.out _ HB.out).mono ?_
  rintro e W1 ⟨R, S, rfl, hd, hR, hbk, bb1⟩
  have HD := Hid.mk' hd
  have HBK := Hid.mk' hbk
  have HB1 := Hid.mk' (Below.on HB.out bb1)
  have hsl := hd.len
  have HRL : Hid (R < W1.heap.size) := (Array.getElem?_eq_some_iff.1 hbk).1
  have hmk : ∀ W, _ := fun W => run_mkN W S.length (by omega)
  have HO0 : Hid (On W1.heap.size (szU S 0) (.slice (some ⟨W1.heap.size, 0, none⟩) S.length S.length) (W1.alloc (.cells (mkN S.length) 3))) := by rw [szU_zero]; exact own_mkN W1 S.length (by omega)
  have HW0 := Hid.mk' (Below.one (Below.refl _ W1) (.cells (mkN S.length) 3))
  clear hd hR hbk bb1 HB HLE
  go_wp2_with fail
  go_loopw [15] (fun t15 wr => ∃ j : Nat, j ≤ S.length ∧ t15 = .int .i64 (j : Int) ∧ On W1.heap.size (szU S j) (.slice (some ⟨W1.heap.size, 0, none⟩) S.length S.length) wr ∧ Below W1.heap.size W1 wr) (fun t15 _ => S.length - (intOf t15).toNat)
  case atStart => exact ⟨0, Nat.zero_le _, rfl, HO0.out, HW0.out⟩
  case round =>
    clear HO0 HW0
    obtain ⟨j, hj, rfl, ho, hw⟩ := hrel
    have HO := Hid.mk' ho
    have HW := Hid.mk' hw
    clear ho hw
    by_cases hlt : j < S.length
    · have hli : (j : Int) < (S.length : Int) := by omega
      have hrg := flat_range ((HW.out.block _ HRL.out).trans HBK.out) (fun ws hw => (HD.out.ok ws hw).len) hlt
      rw [← getD_at hlt] at hrg
      have HSZ := Hid.mk' (ssize_any R (j * 16) (S.getD j []) wr (getD_ok HD.out.ok hlt) hrg)
      have hul : (szU S j).length = S.length := by simp [szU, szL]; omega
      obtain ⟨g', e', d0, k1, k2⟩ := on_at HO.out (j := j) (k := (szU S j)[j]'(by omega)) (List.getElem?_eq_getElem (by omega))
      cases e'
      have f0 := World.ownsRow.frozenAt (by have := HO.out; unfold On at this; rw [hul] at this; exact this) j
      have HO2 : Hid (On W1.heap.size (szU S (j + 1)) (.slice (some ⟨W1.heap.size, 0, none⟩) S.length S.length) (wr.setCell ⟨W1.heap.size, j, none⟩ (.int .i64 ((sizeW (S.getD j []) : Nat) : Int)))) := by
        have := on_put HO.out j (sizeW (S.getD j []))
        have e : (szU S j).set j (sizeW (S.getD j [])) = szU S (j + 1) := by
          have h1 := part_set (szL S) 0 (n := S.length) (j := j) (by simp [szL]) hlt
          unfold szU
          rw [← h1]
          congr 1
          have h2 := szL_at hlt
          rw [List.getElem?_eq_getElem (by simp [szL]; exact hlt)] at h2
          exact (Option.some.inj h2).symm
        rw [e] at this
        exact this
      have HW2 := Hid.mk' (HW.out.setCell (p := ⟨W1.heap.size, j, none⟩) (Nat.le_refl _) (.int .i64 ((sizeW (S.getD j []) : Nat) : Int)))
      generalize (szU S j)[j] = z0 at *
      generalize sizeW (S.getD j []) = zz at *
      clear k1 k2 hrg hul
      go_wp2_with (go_at_call 49; refine HSZ.out.mono ?_; rintro e w3 ⟨rfl, rfl⟩)
      go_roundw
      case rel => exact ⟨j + 1, hlt, by go_num, HO2.out, HW2.out⟩
      case measure => simp [intOf]; omega
    · have e : j = S.length := by omega
      rw [e, szU_all] at HO
      clear e
      obtain ⟨W2, hW2⟩ : ∃ X, X = wr := ⟨_, rfl⟩
      subst hW2
      have HO0 : Hid (Oi W2.heap.size (List.replicate S.length 0) (.slice (some ⟨W2.heap.size, 0, none⟩) S.length S.length) (W2.alloc (.cells (mkN S.length) 3))) := oi_mk W2 S.length (by omega)
      have HW0 := Hid.mk' (Below.one (Below.refl _ W2) (.cells (mkN S.length) 3))
      go_wp2_with fail
      clear hmk
      go_loopw [31] (fun t31 wr => ∃ (j : Nat) (ts : List Int), j ≤ S.length ∧ t31 = .int .i64 (j : Int) ∧ ts.length = j ∧ (∀ v r, ts[v]? = some r → TrAt fl v r) ∧ Oi W2.heap.size (ts ++ List.replicate (S.length - j) 0) (.slice (some ⟨W2.heap.size, 0, none⟩) S.length S.length) wr ∧ Below W2.heap.size W2 wr) (fun t31 _ => S.length - (intOf t31).toNat)
      case atStart => exact ⟨0, [], Nat.zero_le _, rfl, rfl, fun v r h => by simp at h, HO0.out, HW0.out⟩
      case round =>
        clear HO0 HW0 hlt hj
        obtain ⟨j, ts, hj, rfl, htl, htr, ho, hwb⟩ := hrel
        have HTR := Hid.mk' htr
        have HOI := Hid.mk' ho
        have HWB := Hid.mk' hwb
        clear htr ho hwb
        by_cases hlt : j < S.length
        · have hli : (j : Int) < (S.length : Int) := by omega
          have hlst : ∀ W, Below W2.heap.size W2 W → Lst W (some ⟨W1.heap.size, 0, none⟩) ((szL S).map nV) := fun W hb => (own_lst (by have := HO.out; unfold On at this; rw [show (szL S).length = S.length by simp [szL]] at this; exact this)).stay hb
          have hcz : ∀ W, Below W2.heap.size W2 W → W.cell? ⟨W1.heap.size, j, none⟩ = some (.int .i64 ((sizeW (S.getD j []) : Nat) : Int)) := fun W hb => by
            obtain ⟨b, o, e, hc⟩ := hlst W hb j (nV (sizeW (S.getD j []))) (by rw [List.getElem?_map, szL_at hlt]; rfl)
            cases e
            rwa [Nat.zero_add] at hc
          have HS0 : Hid (Below W2.heap.size W2 wr.drew ∧ wr.drew.cell? ⟨W1.heap.size, j, none⟩ = some (.int .i64 ((sizeW (S.getD j []) : Nat) : Int))) := ⟨Below.drew HWB.out, hcz _ (Below.drew HWB.out)⟩
          have HNC : Hid (∀ W, Below W2.heap.size W2 W → Calls Tryd.prog 50 #[.pointer (some ⟨R, j * 16, none⟩), .slice (some ⟨W1.heap.size, 0, none⟩) S.length S.length, .int .i64 ((sizeW (S.getD j []) : Nat) : Int)] W fun e w' => ∃ r, e = .returned (.int .i64 r) ∧ TrAt fl j r ∧ Below W.heap.size W w') := fun W hb => by
            have hb1 : Below W1.heap.size W1 W := HW.out.trans (hb.mono HW.out.size)
            have hbw : Below w.heap.size w W := HB1.out.trans (hb1.mono HB1.out.size)
            have hrg := flat_range ((hb1.block _ HRL.out).trans HBK.out) (fun ws hw => (HD.out.ok ws hw).len) hlt
            rw [← getD_at hlt] at hrg
            have hsz := sizeW_le (getD_ok HD.out.ok hlt)
            have := nearest_any R (j * 16) (S.getD j []) (szL S) (some ⟨W1.heap.size, 0, none⟩) S.length ((sizeW (S.getD j []) : Nat) : Int) W (getD_ok HD.out.ok hlt) hrg (Nat.lt_of_lt_of_le HRL.out hb1.size) (Nat.lt_of_lt_of_le HG.out hbw.size) (HT.out.keep (hbw.block _ HG.out)) (hlst W hb) (fun a ha => by
              obtain ⟨_, hh, h0, hl⟩ := HD.out.size hlt
              rw [show (szL S).length = S.length by simp [szL], hl]
              exact ((hh a).1 ha).left.lt h0) ⟨by omega, by omega⟩
            rw [show (szL S).length = S.length by simp [szL]] at this
            exact this.mono fun e w' h => near_tr HD.out hlt h
          have htl2 : j < (ts ++ List.replicate (S.length - j) (0 : Int)).length := by simp; omega
          have HOT : Hid (∀ W, Below wr.heap.size wr W → ∃ z, W.cell? ⟨W2.heap.size, j, none⟩ = some (.int .i64 z) ∧ W.frozen? ⟨W2.heap.size, j, none⟩ = false ∧ ∀ r, TrAt fl j r → (∀ v q, (ts ++ [r])[v]? = some q → TrAt fl v q) ∧ Oi W2.heap.size ((ts ++ [r]) ++ List.replicate (S.length - (j + 1)) 0) (.slice (some ⟨W2.heap.size, 0, none⟩) S.length S.length) (W.setCell ⟨W2.heap.size, j, none⟩ (.int .i64 r)) ∧ Below W2.heap.size W2 (W.setCell ⟨W2.heap.size, j, none⟩ (.int .i64 r))) := fun W hb => by
            have ho : Oi W2.heap.size (ts ++ List.replicate (S.length - j) 0) (.slice (some ⟨W2.heap.size, 0, none⟩) S.length S.length) W := own_stay HOI.out hb
            have hlen : (ts ++ List.replicate (S.length - j) (0 : Int)).length = S.length := by simp; omega
            refine ⟨_, oi_at ho htl2, World.ownsRow.frozenAt (by unfold Oi at ho; rw [hlen] at ho; exact ho) j, fun r hr => ⟨fun v q hq => ?_, ?_, (Below.on HWB.out hb).setCell (Nat.le_refl _) _⟩⟩
            · by_cases hv : v < j
              · rw [List.getElem?_append_left (by omega)] at hq
                exact HTR.out v q hq
              · rw [List.getElem?_append_right (by omega)] at hq
                have hvj : v = j := by
                  have := (List.getElem?_eq_some_iff.1 hq).1
                  simp at this
                  omega
                subst hvj
                rw [htl, Nat.sub_self] at hq
                cases hq
                exact hr
            · rw [← grow_set ts 0 r htl hlt]
              exact oi_put ho j r
          have hszl := sizeW_le (getD_ok HD.out.ok hlt)
          have HCZ := Hid.mk' hcz
          generalize sizeW (S.getD j []) = zz at *
          clear hcz hlst htl2
          go_upto_region 12 with fail
          refine wp_region_K (fun w' => Below W2.heap.size W2 w' ∧ w'.cell? ⟨W1.heap.size, j, none⟩ = some (.int .i64 (zz : Int))) 12 (by kernel_rfl) ?_
          simp only [List.size_toArray, List.length_cons, List.length_nil, Nat.reduceAdd]
          refine wpAnyK_takeL (i := 0) (v := ?tv0) rfl (by kernel_rfl) (by kernel_rfl) (by kernel_rfl) (by kernel_rfl) (fun _ _ _ h => h) (by rfl) ?ty0 HS0.out ?tr0
          case ty0 => (intro w' hSw; obtain ⟨_, hs2⟩ := hSw; go_simp; try with_reducible rfl)
          simp only [Act.put, List.setIfInBounds_toArray, List.set_cons_zero, List.set_cons_succ]
          refine wpAnyK_takeL (i := 1) (v := ?tv1) rfl (by kernel_rfl) (by kernel_rfl) (by kernel_rfl) (by kernel_rfl) (fun _ _ _ h => h) (by rfl) ?ty1 HS0.out ?tr1
          case ty1 => (intro w' hSw; obtain ⟨_, hs2⟩ := hSw; go_simp; try with_reducible rfl)
          simp only [Act.put, List.setIfInBounds_toArray, List.set_cons_zero, List.set_cons_succ]
          refine wpAnyK_takeL (i := 2) (v := ?tv2) rfl (by kernel_rfl) (by kernel_rfl) (by kernel_rfl) (by kernel_rfl) (fun _ _ _ h => h) (by rfl) ?ty2 HS0.out ?tr2
          case ty2 => (intro w' hSw; obtain ⟨_, hs2⟩ := hSw; go_simp; try with_reducible rfl)
          simp only [Act.put, List.setIfInBounds_toArray, List.set_cons_zero, List.set_cons_succ]
          refine wpAnyK_takeL (i := 3) (v := ?tv3) rfl (by kernel_rfl) (by kernel_rfl) (by kernel_rfl) (by kernel_rfl) (fun _ _ _ h => h) (by rfl) ?ty3 HS0.out ?tr3
          case ty3 => (intro w' hSw; obtain ⟨_, hs2⟩ := hSw; go_simp; try with_reducible rfl)
          simp only [Act.put, List.setIfInBounds_toArray, List.set_cons_zero, List.set_cons_succ]
          refine wpAnyK_takeL (i := 4) (v := ?tv4) rfl (by kernel_rfl) (by kernel_rfl) (by kernel_rfl) (by kernel_rfl) (fun _ _ _ h => h) (by rfl) ?ty4 HS0.out ?tr4
          case ty4 => (intro w' hSw; obtain ⟨_, hs2⟩ := hSw; go_simp; try with_reducible rfl)
          simp only [Act.put, List.setIfInBounds_toArray, List.set_cons_zero, List.set_cons_succ]
          refine wpAnyK_takeL (i := 5) (v := ?tv5) rfl (by kernel_rfl) (by kernel_rfl) (by kernel_rfl) (by kernel_rfl) (fun _ _ _ h => h) (by rfl) ?ty5 HS0.out ?tr5
          case ty5 => (intro w' hSw; obtain ⟨_, hs2⟩ := hSw; go_simp; try with_reducible rfl)
          simp only [Act.put, List.setIfInBounds_toArray, List.set_cons_zero, List.set_cons_succ]
          refine wpAnyK_takeL (i := 6) (v := ?tv6) rfl (by kernel_rfl) (by kernel_rfl) (by kernel_rfl) (by kernel_rfl) (fun _ _ _ h => h) (by rfl) ?ty6 HS0.out ?tr6
          case ty6 => (intro w' hSw; obtain ⟨_, hs2⟩ := hSw; go_simp; try with_reducible rfl)
          simp only [Act.put, List.setIfInBounds_toArray, List.set_cons_zero, List.set_cons_succ]
          refine wpAnyK_takeL (i := 7) (v := ?tv7) rfl (by kernel_rfl) (by kernel_rfl) (by kernel_rfl) (by kernel_rfl) (fun _ _ _ h => h) (by rfl) ?ty7 HS0.out ?tr7
          case ty7 => (intro w' hSw; obtain ⟨_, hs2⟩ := hSw; go_simp; try with_reducible rfl)
          simp only [Act.put, List.setIfInBounds_toArray, List.set_cons_zero, List.set_cons_succ]
          refine wpAnyK_takeL (i := 8) (v := ?tv8) rfl (by kernel_rfl) (by kernel_rfl) (by kernel_rfl) (by kernel_rfl) (fun _ _ _ h => h) (by rfl) ?ty8 HS0.out ?tr8
          case ty8 => (intro w' hSw; obtain ⟨_, hs2⟩ := hSw; go_simp; try with_reducible rfl)
          simp only [Act.put, List.setIfInBounds_toArray, List.set_cons_zero, List.set_cons_succ]
          refine wpAnyK_takeL (i := 9) (v := ?tv9) rfl (by kernel_rfl) (by kernel_rfl) (by kernel_rfl) (by kernel_rfl) (fun _ _ _ h => h) (by rfl) ?ty9 HS0.out ?tr9
          case ty9 => (intro w' hSw; obtain ⟨_, hs2⟩ := hSw; go_simp; try with_reducible rfl)
          simp only [Act.put, List.setIfInBounds_toArray, List.set_cons_zero, List.set_cons_succ]
          refine wpAnyK_one (i := 10) (by kernel_rfl) rfl (fun K hK => ?_)
          go_simp
          refine (HNC.out _ HS0.out.1).mono ?_
          rintro e W3 ⟨r, rfl, hr, hb3⟩
          have hb4 := Below.on HS0.out.1 hb3
          obtain ⟨z, d0, f0, hnx⟩ := HOT.out W3 ⟨hb3.os, hb3.tape, hb3.output, hb3.size, hb3.block⟩
          have HNX := Hid.mk' (hnx r hr)
          have HS3 : Hid (Below W2.heap.size W2 W3 ∧ W3.cell? ⟨W1.heap.size, j, none⟩ = some (.int .i64 (zz : Int))) := ⟨hb4, HCZ.out W3 hb4⟩
          refine hK.out _ _ (fun _ => HS3.out) ?_
          clear hK K hnx hr hb3 hb4
          refine wpAnyK_one (i := 11) (by kernel_rfl) rfl (fun K hK => ?_)
          go_simp
          refine hK.out _ _ (fun _ => HS3.out) ?_
          clear hK K
          refine wpAnyK_one (i := 12) (by kernel_rfl) rfl (fun K hK => ?_)
          go_simp
          refine hK.out _ _ (fun h => absurd rfl h) ?_
          refine wpAnyK_done (by kernel_rfl) ?_ _
          clear hK K HS3 HS0 HOT HNC HCZ d0 f0
          go_wp2_with fail
          go_roundw
          case rel => exact ⟨j + 1, ts ++ [r], hlt, by go_num, by rw [List.length_append, htl]; rfl, HNX.out.1, HNX.out.2.1, HNX.out.2.2⟩
          case measure => simp [intOf]; omega
        · have e : j = S.length := by omega
          have HIT : Hid (IsT fl ts) := by
            rcases HD.out with ⟨h, e2⟩ | ⟨h1, h2, h3, _⟩
            · refine .inl ⟨h, ?_⟩
              rw [e2] at e
              exact List.length_eq_zero_iff.1 (by rw [htl, e]; rfl)
            · refine .inr ⟨h1, h2, by omega, fun v hv => ?_⟩
              have hvt : v < ts.length := by omega
              have := HTR.out v _ (List.getElem?_eq_getElem hvt)
              rcases this with ⟨e3, h4⟩ | ⟨k, e3, h4⟩
              · exact .inl ⟨by rw [List.getElem?_eq_getElem hvt, e3], h4⟩
              · exact .inr ⟨k, by rw [List.getElem?_eq_getElem hvt, e3], h4⟩
          have HTL : Hid (ts.length = S.length) := (by omega : ts.length = S.length)
          have HFI : Hid (Oi w.heap.size ts (.slice (some ⟨W2.heap.size, 0, none⟩) S.length S.length) wr) := by
            have h := HOI.out
            rw [e, Nat.sub_self, List.replicate_zero, List.append_nil] at h
            exact own_mono h (Nat.le_trans HB1.out.size HW.out.size)
          have HFB : Hid (Below w.heap.size w wr) := HB1.out.trans ((HW.out.trans (HWB.out.mono HW.out.size)).mono HB1.out.size)
          clear e
          go_wp2_with fail
          go_ret
          refine ⟨W2.heap.size, ts, ?_, HIT.out, ?_, HFB.out⟩
          · rw [HTL.out]; rfl
          · rw [HTL.out]; exact HFI.out
end Go.Proofs.YtgiokognngllcaaDoor
