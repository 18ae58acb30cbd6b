/- dom.nearest. -/
import Derived.Test.YtlnjhnbiljkbmaaDoorJh
namespace Go.Proofs.YtlnjhnbiljkbmaaDoor
open Go.RowKit Go.Shelf
attribute [local go_sem] Oper.semAt_some

theorem wpAnyH_takeL {P : Program} {Q : Exit → Act → World → Prop} {md : Region.Mode} {S : World → Prop} {l : List Oper} {i : Nat} {oi : Oper} {v : Value} {fuel : Nat} {listed : Array Bool} {a : Act} {w : World} (hi : l[i]? = some oi)
    (hs : Region.noSelect l.toArray = true) (hf : Region.free md l.toArray listed i = true) (hr : (Region.ready md l.toArray listed).contains i = true)
    (hQ : ∀ c a w, Q (.panic c) (a.put oi.dst v) w → Q (.panic c) a w) (hw : Region.wanted oi (yielded l.toArray a.tmps) = true) (hy : ∀ w, S w → (execOp a.eval oi).run P w = .ok (.value v) w) (hS : S w)
    (h : wpAnyH P md l.toArray Q S fuel (listed.setIfInBounds i true) (a.put oi.dst v) w) : wpAnyH P md l.toArray Q S (fuel + 1) listed a w :=
  wpAnyH_take (by simpa using hi) hs hf hr hQ (.inl ⟨hw, hy⟩) hS h
theorem simple_bin {P : Program} {o : Oper} (op : BinOp) (t u : TypeId) (x y : Operand) (h : o.op = .binOp op t x y u) : Simple P o := ⟨fun w ρ => (by unfold Oper.about; rw [h]), fun c e => (by rw [h] at e; cases e), fun w ρ => (by unfold execOp; simp only [h]; exact plain_v _ _ _)⟩
/-- What the loop holds. -/
structure NI (w : World) (N : Nat) (v : Value) (sz : List Nat) (size : Int) (pre : List Nat) (W : World) : Prop where
  v : Boxed W N 34 v
  s : Boxed W (N + 1) 3 (.int .i64 size)
  r : Boxed W (N + 1 + 1) 3 (.int .i64 0)
  b : Below w.heap.size w W
  n : ∀ a ∈ pre, ∀ s, sz[a]? = some s → (s : Int) ≠ size - 1
def NX (w : World) (N : Nat) (sz : List Nat) (size : Int) (c : Code) (pre : List Nat) (W : World) : Prop := c = .ret ∧ ∃ a s, a ∈ pre ∧ sz[a]? = some s ∧ (s : Int) = size - 1 ∧ Boxed W (N + 1 + 1) 3 (.int .i64 (a : Int)) ∧ Below w.heap.size w W
theorem NI.own (w : World) {N B : Nat} (v : Value) (sz : List Nat) (size : Int) (hB : w.heap.size ≤ B) : OwnFrom B (NI w N v sz size) := fun _ _ _ _ h hg hr =>
  ⟨boxed_grown h.v hg (fun r e => (hr r e).2), boxed_grown h.s hg (fun r e => (hr r e).2), boxed_grown h.r hg (fun r e => (hr r e).2), h.b.grown hg h.b.size (fun k e => Nat.le_trans hB (hr k e).1), h.n⟩
theorem NX.own (w : World) {N B : Nat} (sz : List Nat) (size : Int) (c : Code) (hB : w.heap.size ≤ B) : OwnFrom B (NX w N sz size c) := fun _ _ _ _ ⟨h1, a, s, h2, h3, h4, h5, h6⟩ hg hr =>
  ⟨h1, a, s, h2, h3, h4, boxed_grown h5 hg (fun r e => (hr r e).2), h6.grown hg h6.size (fun k e => Nat.le_trans hB (hr k e).1)⟩
def NeP (ws : List Nat) (sz : List Nat) (size : Int) (w : World) (e : Ending) (w' : World) : Prop :=
  ((e = .returned (.int .i64 (-1)) ∧ ∀ a s, hasW ws a = true → sz[a]? = some s → (s : Int) ≠ size - 1) ∨ ∃ a s : Nat, e = .returned (.int .i64 (a : Int)) ∧ hasW ws a = true ∧ sz[a]? = some s ∧ (s : Int) = size - 1) ∧ Below w.heap.size w w'
set_option maxRecDepth 100000 in
set_option maxHeartbeats 4000000 in
theorem nearest_in (R o : Nat) (ws sz : List Nat) (sa : Option Addr) (sc : Nat) (size : Int) (w : World) (hk : OkW ws) (hr : w.rangeAt R o (ws.map uV)) (hR : R < w.heap.size) (hG : 0 < w.heap.size) (hT : Tb w) (hl : Lst w sa (sz.map nV)) (hin : ∀ a, hasW ws a = true → a < sz.length) (hs0 : 0 ≤ size ∧ size ≤ 100000) : CallsIn Fence.wide 6 Tryd.prog 22 #[.pointer (some ⟨R, o, none⟩), .slice sa sz.length sc, .int .i64 size] w (NeP ws sz size w) := by
  have HSM : Hid (∀ w', Below w.heap.size w w' → SeqM 29 #[.pointer (some ⟨R, o, none⟩)] encN (KpR R) (upE ws 16) w') := fun w' hb => all_m R o ws hk w' (range_keep hr (hb.block _ hR)) (Nat.lt_of_lt_of_le hR hb.size) (Nat.lt_of_lt_of_le hG hb.size) (hT.keep (hb.block _ hG))
  have HME : Hid (∀ a, a ∈ upE ws 16 ↔ hasW ws a = true) := fun a => mem_upE hk
  have HIN := Hid.mk' hin
  have HL := Hid.mk' hl
  have HI0 : Hid (NI w w.heap.size (.slice sa sz.length sc) sz size [] (((w.alloc (.cells #[.slice sa sz.length sc] 34)).alloc (.cells #[.int .i64 size] 3)).alloc (.cells #[.int .i64 0] 3))) := by
    have b1 := ((Boxed.new w 34 (.slice sa sz.length sc)).alloc (.cells #[.int .i64 size] 3)).alloc (.cells #[.int .i64 0] 3)
    have b2 := (Boxed.new (w.alloc (.cells #[.slice sa sz.length sc] 34)) 3 (.int .i64 size)).alloc (.cells #[.int .i64 0] 3)
    have b3 := Boxed.new ((w.alloc (.cells #[.slice sa sz.length sc] 34)).alloc (.cells #[.int .i64 size] 3)) 3 (.int .i64 0)
    simp only [World.size_alloc] at b1 b2 b3
    exact ⟨b1, b2, b3, Below.one (Below.one (Below.one (Below.refl _ w) _) _) _, fun a ha => by cases ha⟩
  have HSZ : Hid ((((w.alloc (.cells #[.slice sa sz.length sc] 34)).alloc (.cells #[.int .i64 size] 3)).alloc (.cells #[.int .i64 0] 3)).heap.size = w.heap.size + 1 + 1 + 1) := (by simp only [World.size_alloc] : _ = _)
  clear hk hr hT hl hin
  refine callsIn_of_wp_marks Tryd.func22 rfl trivial ?_ rfl
  simp only [Tryd.ntmps22, List.size_toArray, List.length_cons, List.length_nil, Nat.reduceAdd, Nat.reduceSub, Array.replicate_succ, Array.replicate_zero, List.push_toArray, List.append_toArray, List.nil_append, List.cons_append]
  gi_wp2_with fail
  have hs5 := HSZ.out
  generalize ((w.alloc (.cells #[.slice sa sz.length sc] 34)).alloc (.cells #[.int .i64 size] 3)).alloc (.cells #[.int .i64 0] 3) = W5 at *
  refine range_m (m := 4) (gf := 29) (fst := #[.pointer (some ⟨R, o, none⟩)]) rfl (enters_of Tryd.func29 (by kernel_rfl) rfl) (HSM.out _ HI0.out.b) (Below.refl _ _) (fun _ => rfl) (fun h k => KpR.trans h k) (fun W o' _ => ⟨by simp, World.putObj_heap_other (by omega), World.putObj_heap_other (by omega)⟩)
    (NI w w.heap.size (.slice sa sz.length sc) sz size) (NX w w.heap.size sz size) (NI.own w _ _ _ (by omega)) (fun c => NX.own w _ _ c (by omega)) HI0.out (fun x a' _ => a' = { tmps := #[.pointer (some ⟨R, o, none⟩), .slice sa sz.length sc, .int .i64 size, undef, .pointer (some ⟨w.heap.size, 0, none⟩), .pointer (some ⟨w.heap.size + 1, 0, none⟩), .pointer (some ⟨w.heap.size + 1 + 1, 0, none⟩), .int .i64 (x : Int), .pointer (some ⟨R, o, none⟩), .func (.func 29) #[.pointer (some ⟨R, o, none⟩)] #[], .int .i64 (x : Int), undef, undef, undef, undef, undef, undef, undef, undef], defers := [] }) (fun x a' _ W W' row h _ _ => h) ?assign ?body ?done ?stop
  case assign =>
    intro l pre x W hi _
    gi_wp2
    exact ⟨keepsFrom_refl' _ _, KpR.refl _ _ _, hi, trivial⟩
  case body =>
    rintro l pre x a' W hi rfl hpx
    have hxm : x ∈ upE ws 16 := hpx.subset (by simp)
    have hxl := HIN.out x ((HME.out x).1 hxm)
    obtain ⟨b, oo, rfl, d0⟩ := lst_n (HL.out.stay hi.b) hxl
    have HAT : Hid (sz[x]? = some sz[x]) := List.getElem?_eq_getElem hxl
    have hxi : (x : Int) < (sz.length : Int) := by omega
    have HI := Hid.mk' hi
    have HS0 : Hid (W.drew.cell? ⟨w.heap.size, 0, none⟩ = some (.slice (some ⟨b, oo, none⟩) sz.length sc) ∧ W.drew.cell? ⟨w.heap.size + 1, 0, none⟩ = some (.int .i64 size) ∧ W.drew.cell? ⟨b, oo + x, none⟩ = some (.int .i64 ((sz[x] : Nat) : Int))) := ⟨hi.v.cell, hi.s.cell, d0⟩
    generalize sz[x] = s at *
    clear hi d0
    gi_wp2_with fail
    refine region_in (S := fun w' => w'.cell? ⟨w.heap.size, 0, none⟩ = some (.slice (some ⟨b, oo, none⟩) sz.length sc) ∧ w'.cell? ⟨w.heap.size + 1, 0, none⟩ = some (.int .i64 size) ∧ w'.cell? ⟨b, oo + x, none⟩ = some (.int .i64 (s : Int))) (by kernel_rfl) ?hq (simple_list ?hs) ?_
    case hq =>
      rintro ⟨a, w', h⟩
      exact h.2.2
    case hs =>
      intro o ho
      simp only [List.mem_cons, List.not_mem_nil, or_false] at ho
      rcases ho with rfl | rfl | rfl | rfl | rfl | rfl | rfl
      all_goals first
        | exact simple_load _ _ rfl
        | exact simple_move _ rfl
        | exact simple_index _ _ _ rfl
        | exact simple_bin _ _ _ _ _ rfl
    simp only [List.size_toArray, List.length_cons, List.length_nil, Nat.reduceAdd]
    refine wpAnyH_takeL (i := 0) (v := ?tv0) rfl (by kernel_rfl) (by kernel_rfl) (by kernel_rfl) (fun _ _ _ h => h) (by rfl) ?ty0 HS0.out ?tr0
    case ty0 => (intro w' hSw; obtain ⟨hs1, hs2, hs3⟩ := hSw; go_simp; try with_reducible rfl)
    simp only [Act.put, List.setIfInBounds_toArray, List.set_cons_zero, List.set_cons_succ]
    refine wpAnyH_takeL (i := 1) (v := ?tv1) rfl (by kernel_rfl) (by kernel_rfl) (by kernel_rfl) (fun _ _ _ h => h) (by rfl) ?ty1 HS0.out ?tr1
    case ty1 => (intro w' hSw; obtain ⟨hs1, hs2, hs3⟩ := hSw; go_simp; try with_reducible rfl)
    simp only [Act.put, List.setIfInBounds_toArray, List.set_cons_zero, List.set_cons_succ]
    refine wpAnyH_takeL (i := 2) (v := ?tv2) rfl (by kernel_rfl) (by kernel_rfl) (by kernel_rfl) (fun _ _ _ h => h) (by rfl) ?ty2 HS0.out ?tr2
    case ty2 => (intro w' hSw; obtain ⟨hs1, hs2, hs3⟩ := hSw; go_simp; try with_reducible rfl)
    simp only [Act.put, List.setIfInBounds_toArray, List.set_cons_zero, List.set_cons_succ]
    refine wpAnyH_takeL (i := 3) (v := ?tv3) rfl (by kernel_rfl) (by kernel_rfl) (by kernel_rfl) (fun _ _ _ h => h) (by rfl) ?ty3 HS0.out ?tr3
    case ty3 => (intro w' hSw; obtain ⟨hs1, hs2, hs3⟩ := hSw; go_simp; try with_reducible rfl)
    simp only [Act.put, List.setIfInBounds_toArray, List.set_cons_zero, List.set_cons_succ]
    refine wpAnyH_takeL (i := 4) (v := ?tv4) rfl (by kernel_rfl) (by kernel_rfl) (by kernel_rfl) (fun _ _ _ h => h) (by rfl) ?ty4 HS0.out ?tr4
    case ty4 => (intro w' hSw; obtain ⟨hs1, hs2, hs3⟩ := hSw; go_simp; try with_reducible rfl)
    simp only [Act.put, List.setIfInBounds_toArray, List.set_cons_zero, List.set_cons_succ]
    refine wpAnyH_takeL (i := 5) (v := ?tv5) rfl (by kernel_rfl) (by kernel_rfl) (by kernel_rfl) (fun _ _ _ h => h) (by rfl) ?ty5 HS0.out ?tr5
    case ty5 => (intro w' hSw; obtain ⟨hs1, hs2, hs3⟩ := hSw; go_simp; try with_reducible rfl)
    simp only [Act.put, List.setIfInBounds_toArray, List.set_cons_zero, List.set_cons_succ]
    refine wpAnyH_takeL (i := 6) (v := ?tv6) rfl (by kernel_rfl) (by kernel_rfl) (by kernel_rfl) (fun _ _ _ h => h) (by rfl) ?ty6 HS0.out ?tr6
    case ty6 => (intro w' hSw; obtain ⟨hs1, hs2, hs3⟩ := hSw; go_simp; try with_reducible rfl)
    simp only [Act.put, List.setIfInBounds_toArray, List.set_cons_zero, List.set_cons_succ]
    refine wpAnyH_done (by kernel_rfl) ?_ _
    have hwr : IntKind.i64.wrap (size - 1) = size - 1 := by rw [IntKind.wrap_i64]; omega
    have c6 : W.drew.cell? ⟨w.heap.size + 1 + 1, 0, none⟩ = some (.int .i64 0) := HI.out.r.cell
    have f6 : W.drew.frozen? ⟨w.heap.size + 1 + 1, 0, none⟩ = false := HI.out.r.frozen
    by_cases hE : (s : Int) = size - 1
    · have hq : ((s : Int) == size - 1) = true := by simp [hE]
      have HE := Hid.mk' hE
      simp only [hwr, hq]
      clear hE HS0 hwr
      gi_wp2
      refine ⟨(KeepsOthers.undrew (KeepsOthers.setCell W.drew _ _)).from _, ⟨by simp [World.setCell], heap_setCell_other W.drew ⟨w.heap.size + 1 + 1, 0, none⟩ R _ (show R ≠ w.heap.size + 1 + 1 by omega), heap_setCell_other W.drew ⟨w.heap.size + 1 + 1, 0, none⟩ _ _ (show 0 ≠ w.heap.size + 1 + 1 by omega)⟩, ?_⟩
      exact ⟨rfl, x, s, by simp, HAT.out, HE.out, Boxed.set (W := W.drew) _ HI.out.r, (Below.drew HI.out.b).setCell (by simp only; omega) _⟩
    · have hq : ((s : Int) == size - 1) = false := beq_no hE
      have HE := Hid.mk' hE
      simp only [hwr, hq]
      clear hE HS0 hwr
      gi_wp2
      refine ⟨(KeepsOthers.drew W).from _, ⟨Nat.le_refl _, rfl, rfl⟩, ?_⟩
      have h := HI.out
      refine ⟨h.v, h.s, h.r, Below.drew h.b, fun a ha t ht => ?_⟩
      rcases List.mem_append.1 ha with ha | ha
      · exact h.n a ha t ht
      · rw [List.mem_singleton] at ha
        subst ha
        rw [HAT.out] at ht
        cases ht
        exact HE.out
  case done =>
    rintro W hi hK
    have c6 := hi.r.cell
    have f6 := hi.r.frozen
    have HI := Hid.mk' hi
    have HALL : Hid (∀ a s, hasW ws a = true → sz[a]? = some s → (s : Int) ≠ size - 1) := fun a s h1 h2 => hi.n a ((HME.out a).2 h1) s h2
    clear hi
    gi_wp2
    have hKZ := (KeepsOthers.setCell W ⟨w.heap.size + 1 + 1, 0, none⟩ (.int .i64 (-1))).same _ _ hK rfl
    have z6 := HI.out.r.set (.int .i64 (-1))
    refine ⟨by simp, .inl ⟨_, _, rfl, run_takeDeferred hKZ, ?_⟩⟩
    have c7 := (put_boxed z6 (.deferred none) hKZ rfl).cell
    refine ⟨.int .i64 (-1), by simp [results, Tryd.results22, go_sem, c7], .inl ⟨rfl, HALL.out⟩, ?_⟩
    exact (HI.out.b.setCell (by simp only; omega) _).trans (belowK_b (w := w) (Nat.le_refl _) _ _ _ _ (by omega) hKZ rfl rfl)
  case stop =>
    rintro c pre W hS ⟨rfl, a, s, h1, h2, h3, h4, h5⟩ hK
    gi_wp2
    refine ⟨by simp, .inl ⟨_, _, rfl, run_takeDeferred hK, ?_⟩⟩
    have c7 := (put_boxed h4 (.deferred none) hK rfl).cell
    refine ⟨.int .i64 (a : Int), by simp [results, Tryd.results22, go_sem, c7], .inr ⟨a, s, rfl, (HME.out a).1 (hS.subset h1), h2, h3⟩, ?_⟩
    exact h5.trans (belowK_b (w := w) (Nat.le_refl _) _ _ _ _ (by omega) hK rfl rfl)
theorem nearest_any (R o : Nat) (ws sz : List Nat) (sa : Option Addr) (sc : Nat) (size : Int) (w : World) (hk : OkW ws) (hr : w.rangeAt R o (ws.map uV)) (hR : R < w.heap.size) (hG : 0 < w.heap.size) (hT : Tb w) (hl : Lst w sa (sz.map nV)) (hin : ∀ a, hasW ws a = true → a < sz.length) (hs0 : 0 ≤ size ∧ size ≤ 100000) : Calls Tryd.prog 22 #[.pointer (some ⟨R, o, none⟩), .slice sa sz.length sc, .int .i64 size] w (NeP ws sz size w) := callsIn_wide.1 (nearest_in R o ws sz sa sc size w hk hr hR hG hT hl hin hs0)
end Go.Proofs.YtlnjhnbiljkbmaaDoor
