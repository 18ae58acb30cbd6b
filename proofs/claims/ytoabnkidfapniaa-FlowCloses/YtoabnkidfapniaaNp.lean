/- The law's own question: are edges told as they are to be? -/
import Derived.Test.YtoabnkidfapniaaNm
import Derived.Test.YtoabnkidfapniaaNn
namespace Go.Proofs.Ytoabnkidfapniaa
open Go.RowKit Go.Shelf
attribute [local go_sem] Oper.semAt_some

theorem boxed_grown {W W' : World} {B : Nat} {t : TypeId} {v : Value} {row : Option Nat} (h : Boxed W B t v) (hg : W.grownBy W' row) (hr : ∀ r, row = some r → ∃ o : Obj, W.heap[r]? = some o ∧ o.isCells = false) : Boxed W' B t v :=
  h.kept hg (fun e => by
    obtain ⟨o, ho, hc⟩ := hr B e.symm
    rw [show W.heap[B]? = _ from h] at ho; cases ho; cases hc)
theorem own_grown {W W' : World} {N n sz : Nat} {T : TypeId} {v : Value} {xs : List Value} {row : Option Nat} (h : W.ownsRow N T sz v n xs) (hg : W.grownBy W' row) (hr : ∀ r, row = some r → ∃ o : Obj, W.heap[r]? = some o ∧ o.isCells = false) : W'.ownsRow N T sz v n xs := by
  refine h.kept hg ?_
  rcases h.2 with ⟨rfl, _⟩ | ⟨g, cap, cur, rfl, _, hgb, _⟩
  · exact .inl rfl
  · refine .inr fun e' => ?_
    obtain ⟨o, ho, hc⟩ := hr g (by simpa [Value.ownBlock] using e'.symm)
    rw [hgb] at ho; cases ho; cases hc
theorem boxed_stay {W W' : World} {B : Nat} {t : TypeId} {v : Value} (h : Boxed W B t v) (hb : Below W.heap.size W W') : Boxed W' B t v := (hb.block _ h.lt).trans h
theorem put_boxed {W : World} {B : Nat} {t : TypeId} {v : Value} (h : Boxed W B t v) {D : Nat} {o : Obj} (o' : Obj) (hD : W.heap[D]? = some o) (hc : o.isCells = false) : Boxed (W.putObj D o') B t v :=
  boxed_grown h (grownBy_putObj' W D o') (fun r e => by cases e; exact ⟨o, hD, hc⟩)
theorem pre_at {α : Type} {L pre : List α} {x : α} (h : pre ++ [x] <+: L) : L[pre.length]? = some x := by
  obtain ⟨r, rfl⟩ := h
  simp
theorem keepsFrom_refl' (B : Nat) (W : World) : KeepsFrom B W W := (KeepsOthers.refl W).from B
theorem es_at {W : World} {a : Option Addr} {l : List (Nat × Nat)} (h : RowIn W a 2 (l.map edC)) {j : Nat} {x : Nat × Nat} (hj : l[j]? = some x) : ∃ b o, a = some ⟨b, o, none⟩ ∧ W.cell? ⟨b, o + j * 2, none⟩ = some (.int .i64 (x.1 : Int)) ∧ W.cell? ⟨b, o + j * 2 + 1, none⟩ = some (.int .i64 (x.2 : Int)) := by
  obtain ⟨b, o, e, hc⟩ := h j (edC x) (by rw [List.getElem?_map, hj]; rfl)
  exact ⟨b, o, e, hc 0 _ rfl, hc 1 _ rfl⟩
/-- What the loop holds. -/
structure TlI (w : World) (N : Nat) (v : Value) (stop : Int) (pre : List (Nat × Nat)) (W : World) : Prop where
  v : Boxed W (N + 1) 41 v
  s : Boxed W (N + 1 + 1) 3 (.int .i64 stop)
  r : Boxed W (N + 1 + 1 + 1) 4 (.bool false)
  a : Boxed W (N + 1 + 1 + 1 + 1) 3 (.int .i64 (pre.length : Nat))
  b : Below w.heap.size w W
def TlX (w : World) (N : Nat) (c : Code) (_ : List (Nat × Nat)) (W : World) : Prop := c = .ret ∧ Boxed W (N + 1 + 1 + 1) 4 (.bool true) ∧ Below w.heap.size w W
theorem TlI.own (w : World) {N B : Nat} (v : Value) (stop : Int) (hB : w.heap.size ≤ B) : OwnFrom B (TlI w N v stop) := fun _ _ _ _ h hg hr =>
  ⟨boxed_grown h.v hg (fun r e => (hr r e).2), boxed_grown h.s hg (fun r e => (hr r e).2), boxed_grown h.r hg (fun r e => (hr r e).2), boxed_grown h.a hg (fun r e => (hr r e).2), h.b.grown hg h.b.size (fun k e => Nat.le_trans hB (hr k e).1)⟩
theorem TlX.own (w : World) {N B : Nat} (c : Code) (hB : w.heap.size ≤ B) : OwnFrom B (TlX w N c) := fun _ _ _ _ ⟨h1, h2, h3⟩ hg hr =>
  ⟨h1, boxed_grown h2 hg (fun r e => (hr r e).2), h3.grown hg h3.size (fun k e => Nat.le_trans hB (hr k e).1)⟩
theorem TlI.next {w : World} {N : Nat} {v : Value} {stop : Int} {pre : List (Nat × Nat)} {W : World} (h : TlI w N v stop pre W) (hN : w.heap.size ≤ N) (x : Nat × Nat) : TlI w N v stop (pre ++ [x]) (W.setCell ⟨N + 1 + 1 + 1 + 1, 0, none⟩ (.int .i64 ((pre.length : Int) + 1))) :=
  ⟨h.v.other (by omega) _, h.s.other (by omega) _, h.r.other (by omega) _, by have := h.a.set (.int .i64 ((pre.length : Int) + 1)); simpa using this, h.b.setCell (by simp only; omega) _⟩
set_option maxRecDepth 100000 in
set_option maxHeartbeats 4000000 in
theorem told_in (f : Fn) (rs : List Bool) (wa : Option Addr) (wc : Nat) (stop : Int) (w : World) (hi : Iss w f.ca f.code) (hc : f.code.length ≤ f.cc) (hir : IsR f.code rs) (hw : RowIn w wa 2 ((edg f.code rs).map edC)) : CallsIn Fence.wide 6 Try.prog 18 #[f.val, .slice wa (edg f.code rs).length wc, .int .i64 stop] w fun e w' => e = .returned (.bool true) ∧ Below w.heap.size w w' := by
  have HED : Hid (∀ w', Below w.heap.size w w' → Calls Try.prog 21 #[f.val] w' (EdP f.code w')) := fun w' hb => edges_any f w' (hi.stay hb) hc
  have HLN : Hid ((edg f.code rs).length ≤ 3000) := by
    have := edU_len f.code rs rs.length
    have h2 := hir.len
    show _ ≤ _
    unfold edg
    omega
  have HIR : Hid (∀ rs', IsR f.code rs' → edg f.code rs' = edg f.code rs) := fun rs' h => by rw [h.one hir]
  have HW := Hid.mk' hw
  clear hi hc hir hw
  obtain ⟨fn, fpa, fpc, fps, frg, fwd, fca, fcc, fl⟩ := f
  unfold Fn.val at *
  simp only at HED HLN HIR HW ⊢
  generalize edg fl rs = es at *
  refine callsIn_of_wp_marks Try.func18 rfl trivial ?_ rfl
  simp only [Try.ntmps18, List.size_toArray, List.length_cons, List.length_nil, Nat.reduceAdd, Nat.reduceSub, Array.replicate_succ, Array.replicate_zero, List.push_toArray, List.append_toArray, List.nil_append, List.cons_append]
  gi_wp2_with fail
  refine ⟨trivial, ?_⟩
  have HI0 : Hid (TlI w w.heap.size (.slice wa es.length wc) stop [] (((((w.alloc (.cells #[.string fn, .slice fpa fps.length fpc, .int .i64 frg, .int .i64 fwd, .slice fca fl.length fcc] 25)).alloc (.cells #[.slice wa es.length wc] 41)).alloc (.cells #[.int .i64 stop] 3)).alloc (.cells #[.bool false] 4)).alloc (.cells #[.int .i64 0] 3))) := by
    have b1 := (((Boxed.new (w.alloc (.cells #[.string fn, .slice fpa fps.length fpc, .int .i64 frg, .int .i64 fwd, .slice fca fl.length fcc] 25)) 41 (.slice wa es.length wc)).alloc (.cells #[.int .i64 stop] 3)).alloc (.cells #[.bool false] 4)).alloc (.cells #[.int .i64 0] 3)
    have b2 := ((Boxed.new ((w.alloc (.cells #[.string fn, .slice fpa fps.length fpc, .int .i64 frg, .int .i64 fwd, .slice fca fl.length fcc] 25)).alloc (.cells #[.slice wa es.length wc] 41)) 3 (.int .i64 stop)).alloc (.cells #[.bool false] 4)).alloc (.cells #[.int .i64 0] 3)
    have b3 := (Boxed.new (((w.alloc (.cells #[.string fn, .slice fpa fps.length fpc, .int .i64 frg, .int .i64 fwd, .slice fca fl.length fcc] 25)).alloc (.cells #[.slice wa es.length wc] 41)).alloc (.cells #[.int .i64 stop] 3)) 4 (.bool false)).alloc (.cells #[.int .i64 0] 3)
    have b4 := Boxed.new ((((w.alloc (.cells #[.string fn, .slice fpa fps.length fpc, .int .i64 frg, .int .i64 fwd, .slice fca fl.length fcc] 25)).alloc (.cells #[.slice wa es.length wc] 41)).alloc (.cells #[.int .i64 stop] 3)).alloc (.cells #[.bool false] 4)) 3 (.int .i64 0)
    simp only [World.size_alloc] at b1 b2 b3 b4
    exact ⟨b1, b2, b3, b4, Below.one (Below.one (Below.one (Below.one (Below.one (Below.refl _ w) _) _) _) _) _⟩
  have HSZ : Hid ((((((w.alloc (.cells #[.string fn, .slice fpa fps.length fpc, .int .i64 frg, .int .i64 fwd, .slice fca fl.length fcc] 25)).alloc (.cells #[.slice wa es.length wc] 41)).alloc (.cells #[.int .i64 stop] 3)).alloc (.cells #[.bool false] 4)).alloc (.cells #[.int .i64 0] 3)).heap.size = w.heap.size + 1 + 1 + 1 + 1 + 1) := (by simp only [World.size_alloc] : _ = _)
  generalize ((((w.alloc (.cells #[.string fn, .slice fpa fps.length fpc, .int .i64 frg, .int .i64 fwd, .slice fca fl.length fcc] 25)).alloc (.cells #[.slice wa es.length wc] 41)).alloc (.cells #[.int .i64 stop] 3)).alloc (.cells #[.bool false] 4)).alloc (.cells #[.int .i64 0] 3) = W5 at *
  refine (callsIn_wide.2 (HED.out _ HI0.out.b)).mono ?_
  rintro e w2 ⟨B1, B2, rs', rfl, hir', hseq, bb2⟩
  rw [HIR.out rs' hir'] at hseq
  have HSQ := Hid.mk' hseq
  have I0 : TlI w w.heap.size (.slice wa es.length wc) stop [] w2 := ⟨boxed_stay HI0.out.v bb2, boxed_stay HI0.out.s bb2, boxed_stay HI0.out.r bb2, boxed_stay HI0.out.a bb2, Below.on HI0.out.b bb2⟩
  have hs5 := HSZ.out
  have hs2 := bb2.size
  have hln := HLN.out
  generalize W5.heap.size = G5 at *
  clear hir' hseq bb2 HI0 HED HIR HSZ
  gi_wp2_with fail
  refine range_o (m := 4) (gf := 30) (lb := #[.pointer (some ⟨B1, 0, none⟩), .pointer (some ⟨B2, 0, none⟩)]) rfl (enters_of Try.func30 (by kernel_rfl) rfl) HSQ.out (Below.refl _ _) (fun _ => rfl) (fun h k => kpE_t h k) (fun W o' _ => kpE_b (by omega) (by omega) W o')
    (TlI w w.heap.size (.slice wa es.length wc) stop) (TlX w w.heap.size) (TlI.own w _ _ (by omega)) (fun c => TlX.own w c (by omega)) I0 (fun x a' _ => a' = { tmps := #[.agg #[.string fn, .slice fpa fps.length fpc, .int .i64 frg, .int .i64 fwd, .slice fca fl.length fcc], .slice wa es.length wc, .int .i64 stop, .pointer (some ⟨w.heap.size, 0, none⟩), .pointer (some ⟨w.heap.size + 1, 0, none⟩), .pointer (some ⟨w.heap.size + 1 + 1, 0, none⟩), .pointer (some ⟨w.heap.size + 1 + 1 + 1, 0, none⟩), .pointer (some ⟨w.heap.size + 1 + 1 + 1 + 1, 0, none⟩), .int .i64 (x.1 : Int), .int .i64 (x.2 : Int), .agg #[.string fn, .slice fpa fps.length fpc, .int .i64 frg, .int .i64 fwd, .slice fca fl.length fcc], .func (.func 30) #[] #[.pointer (some ⟨B1, 0, none⟩), .pointer (some ⟨B2, 0, none⟩)], .int .i64 (x.1 : Int), .int .i64 (x.2 : Int), undef, undef, undef, undef, undef, undef, undef, undef, undef, undef, undef, undef, undef, undef, undef, undef, undef, undef, undef, undef, undef, undef, undef, undef, undef, undef, undef, undef, undef, undef, undef], defers := [] }) (fun x a' _ W W' row h _ _ => h) ?assign ?body ?done ?stop
  case assign =>
    intro l pre x W hi _
    gi_wp2
    exact ⟨keepsFrom_refl' _ _, kpE_refl _ _ _ _, hi, trivial⟩
  case body =>
    rintro l pre x a' W hi rfl hpx
    have hat := pre_at hpx
    obtain ⟨b, o, rfl, d0, d1⟩ := es_at (HW.out.below hi.b) hat
    have hpl := (List.getElem?_eq_some_iff.1 hat).1
    have e4 := hi.v.cell
    have e5 := hi.s.cell
    have e6 := hi.r.cell
    have e7 := hi.a.cell
    have f7 := hi.a.frozen
    have f6 := hi.r.frozen
    have hge : decide ((es.length : Int) ≤ (pre.length : Int)) = false := decide_eq_false (by omega)
    have hge2 : decide (es.length ≤ pre.length) = false := decide_eq_false (by omega)
    have hli : (pre.length : Int) < (es.length : Int) := by omega
    have hn1 : ¬ (w.heap.size + 1 + 1 + 1 + 1 = w.heap.size + 1 + 1 + 1) := by omega
    have HI := Hid.mk' hi
    have HN := Hid.mk' (hi.next (Nat.le_refl _) x)
    obtain ⟨x1, x2⟩ := x
    simp only at d0 d1 HN ⊢
    have q1 : ((x1 : Int) != (x1 : Int)) = false := bne_no rfl
    have q2 : ((x2 : Int) != (x2 : Int)) = false := bne_no rfl
    have HKP : Hid (∀ W (v : Value) b, b < G5 → KpE G5 w2.heap.size (w2.heap.size + 1 + 1) W (W.setCell ⟨b, 0, none⟩ v)) := fun W v b hb => kpE_set (.inl hb) (by omega) W v
    clear hi hat hpx
    by_cases hst : (pre.length : Int) + 1 = stop
    · have hq2 : ((pre.length : Int) + 1 == stop) = true := by simp [hst]
      clear hst
      gi_wp2
      exact ⟨((KeepsOthers.setCell W _ _).trans (KeepsOthers.setCell _ _ _)).from _, kpE_t (HKP.out _ _ _ (by omega)) (HKP.out _ _ _ (by omega)), rfl, HN.out.r.set _, HN.out.b.setCell (by simp only; omega) _⟩
    · have hq2 : ((pre.length : Int) + 1 == stop) = false := beq_no hst
      gi_wp2
      exact ⟨(KeepsOthers.setCell W _ _).from _, HKP.out _ _ _ (by omega), HN.out⟩
  case done =>
    rintro W hi hK
    have e4 := hi.v.cell
    have e6 := hi.r.cell
    have e7 := hi.a.cell
    have f6 := hi.r.frozen
    have hn1 : ¬ (w.heap.size + 1 + 1 + 1 + 1 = w.heap.size + 1 + 1 + 1) := by omega
    have HI := Hid.mk' hi
    clear hi
    gi_wp2
    have hKZ := (KeepsOthers.setCell W ⟨w.heap.size + 1 + 1 + 1, 0, none⟩ (.bool true)).same _ _ hK rfl
    have z6 := HI.out.r.set (.bool true)
    refine ⟨by simp, .inl ⟨_, _, rfl, run_takeDeferred hKZ, ?_⟩⟩
    have c6 := (put_boxed z6 (.deferred none) hKZ rfl).cell
    refine ⟨.bool true, by simp [results, Try.results18, go_sem, c6], rfl, ?_⟩
    exact (HI.out.b.setCell (by simp only; omega) _).trans (belowK_b (w := w) (Nat.le_refl _) _ _ _ _ (by omega) hKZ rfl rfl)
  case stop =>
    rintro c pre W hS ⟨rfl, h1, h3⟩ hK
    gi_wp2
    refine ⟨by simp, .inl ⟨_, _, rfl, run_takeDeferred hK, ?_⟩⟩
    have c6 := (put_boxed h1 (.deferred none) hK rfl).cell
    refine ⟨.bool true, by simp [results, Try.results18, go_sem, c6], rfl, ?_⟩
    exact h3.trans (belowK_b (w := w) (Nat.le_refl _) _ _ _ _ (by omega) hK rfl rfl)
theorem told_any (f : Fn) (rs : List Bool) (wa : Option Addr) (wc : Nat) (stop : Int) (w : World) (hi : Iss w f.ca f.code) (hc : f.code.length ≤ f.cc) (hir : IsR f.code rs) (hw : RowIn w wa 2 ((edg f.code rs).map edC)) : Calls Try.prog 18 #[f.val, .slice wa (edg f.code rs).length wc, .int .i64 stop] w fun e w' => e = .returned (.bool true) ∧ Below w.heap.size w w' := callsIn_wide.1 (told_in f rs wa wc stop w hi hc hir hw)
end Go.Proofs.Ytoabnkidfapniaa
