/- The law's own question: are the registers told as they are to be? -/
import Derived.Test.YtlkoigdnakmdlaaDoorIc
import Derived.Test.YtlkoigdnakmdlaaDoorIf
namespace Go.Proofs.YtlkoigdnakmdlaaDoor
open Go.RowKit Go.Shelf
attribute [local go_sem] Oper.semAt_some

theorem boxed_grown {W W' : World} {B : Nat} {t : TypeId} {v : Value} {row : Option Nat} (h : Boxed W B t v) (hg : W.grownBy W' row) (hr : ∀ r, row = some r → ∃ o : Obj, W.heap[r]? = some o ∧ o.isCells = false) : Boxed W' B t v :=
  h.kept hg (fun e => by
    obtain ⟨o, ho, hc⟩ := hr B e.symm
    rw [show W.heap[B]? = _ from h] at ho; cases ho; cases hc)
theorem own_grown {W W' : World} {N n sz : Nat} {T : TypeId} {v : Value} {xs : List Value} {row : Option Nat} (h : W.ownsRow N T sz v n xs) (hg : W.grownBy W' row) (hr : ∀ r, row = some r → ∃ o : Obj, W.heap[r]? = some o ∧ o.isCells = false) : W'.ownsRow N T sz v n xs := by
  refine h.kept hg ?_
  rcases h.2 with ⟨rfl, _⟩ | ⟨g, cap, cur, rfl, _, hgb, _⟩
  · exact .inl rfl
  · refine .inr fun e' => ?_
    obtain ⟨o, ho, hc⟩ := hr g (by simpa [Value.ownBlock] using e'.symm)
    rw [hgb] at ho; cases ho; cases hc
theorem boxed_stay {W W' : World} {B : Nat} {t : TypeId} {v : Value} (h : Boxed W B t v) (hb : Below W.heap.size W W') : Boxed W' B t v := (hb.block _ h.lt).trans h
theorem own_cell {W : World} {N n : Nat} {T : TypeId} {a : Option Addr} {c : Nat} {xs : List Value} (h : W.ownsRow N T 1 (.slice a n c) n xs) {j : Nat} {u : Value} (hj : xs[j]? = some u) : ∃ g, a = some ⟨g, 0, none⟩ ∧ W.cell? ⟨g, j, none⟩ = some u := by
  rcases h.2 with ⟨e, h0⟩ | ⟨g, cap, cur, e, _, _⟩
  · have := h.1
    have := (List.getElem?_eq_some_iff.1 hj).1
    omega
  · cases e
    refine ⟨g, rfl, ?_⟩
    have := h.cells (g := g) rfl j u hj
    rwa [Addr.add_lit, Nat.zero_add] at this
theorem put_boxed {W : World} {B : Nat} {t : TypeId} {v : Value} (h : Boxed W B t v) {D : Nat} {o : Obj} (o' : Obj) (hD : W.heap[D]? = some o) (hc : o.isCells = false) : Boxed (W.putObj D o') B t v :=
  boxed_grown h (grownBy_putObj' W D o') (fun r e => by cases e; exact ⟨o, hD, hc⟩)
/-- What the loop holds. -/
structure TlI (w : World) (N1 N2 N5 N6 : Nat) (v : Value) (stop : Int) (L : List Int) (pre : List Int) (W : World) : Prop where
  r : Boxed W N6 4 (.bool false)
  s : Boxed W N5 3 (.int .i64 stop)
  l : Boxed W N1 56 v
  a : Boxed W N2 3 (.int .i64 (pre.length : Nat))
  o : W.ownsRow w.heap.size 3 1 v L.length (L.map iV)
  p : pre <+: L
  b : Below w.heap.size w W
  q : ∀ k, v.ownBlock = some k → k < N1
theorem TlI.grown {w : World} {N1 N2 N5 N6 : Nat} {v : Value} {stop : Int} {L pre : List Int} {W W' : World} (h : TlI w N1 N2 N5 N6 v stop L pre W) {row : Option Nat} {B : Nat} (hB : w.heap.size ≤ B) (hg : W.grownBy W' row) (hr : ∀ r, row = some r → B ≤ r ∧ ∃ o : Obj, W.heap[r]? = some o ∧ o.isCells = false) : TlI w N1 N2 N5 N6 v stop L pre W' :=
  ⟨boxed_grown h.r hg (fun r e => (hr r e).2), boxed_grown h.s hg (fun r e => (hr r e).2), boxed_grown h.l hg (fun r e => (hr r e).2), boxed_grown h.a hg (fun r e => (hr r e).2), own_grown h.o hg (fun r e => (hr r e).2), h.p, h.b.grown hg h.b.size (fun k e => Nat.le_trans hB (hr k e).1), h.q⟩
def TlX (w : World) (N6 : Nat) (L : List Int) (c : Code) (pre : List Int) (W : World) : Prop := c = .ret ∧ ∃ t : Bool, Boxed W N6 4 (.bool t) ∧ (pre <+: L → t = true) ∧ Below w.heap.size w W
theorem TlI.next {w : World} {N1 N5 N6 : Nat} {v : Value} {stop : Int} {L pre : List Int} {W : World} (h : TlI w N1 (N1 + 1) N5 N6 v stop L pre W) (h5 : N5 < N1) (h6 : N6 < N1) (hN : w.heap.size ≤ N1) {r : Int} (hp : pre ++ [r] <+: L) : TlI w N1 (N1 + 1) N5 N6 v stop L (pre ++ [r]) (W.setCell ⟨N1 + 1, 0, none⟩ (.int .i64 ((pre.length : Int) + 1))) :=
  ⟨h.r.other (by omega) _, h.s.other (by omega) _, h.l.other (by omega) _, by have := h.a.set (.int .i64 ((pre.length : Int) + 1)); simpa using this, by
    refine ⟨h.o.1, ?_⟩
    have hq := h.q
    rcases h.o.2 with h0 | ⟨g, cap, cur, rfl, h1, h2, h3⟩
    · exact .inl h0
    · refine .inr ⟨g, cap, cur, rfl, h1, ?_, h3⟩
      have := hq g (by simp [Value.ownBlock])
      exact (Below.heap_setCell _ _ _ _ (by simp only; omega)).trans h2, hp, h.b.setCell (by simp only; omega) _, h.q⟩
theorem kpB_set {B C k i : Nat} {W : World} (v : Value) (h1 : B ≠ k) (h2 : C ≠ k) : KpB B C W (W.setCell ⟨k, i, none⟩ v) := ⟨by simp [World.setCell], Below.heap_setCell _ _ _ _ h1, Below.heap_setCell _ _ _ _ h2⟩
theorem pre_next {L pre : List Int} {x : Int} (h : pre <+: L) (hx : L[pre.length]? = some x) : pre ++ [x] <+: L := by
  obtain ⟨r, rfl⟩ := h
  rw [List.getElem?_append_right (Nat.le_refl _), Nat.sub_self] at hx
  cases r with
  | nil => simp at hx
  | cons y r => simp at hx; subst hx; exact ⟨r, by simp⟩
theorem pre_at {L pre : List Int} {x : Int} (h : pre ++ [x] <+: L) : L[pre.length]? = some x := by
  obtain ⟨r, rfl⟩ := h
  simp

set_option maxRecDepth 100000 in
set_option maxHeartbeats 2000000 in
theorem told_in (x : Is) (p stop : Int) (w : World) (ht : Tab w) : CallsIn Fence.wide 6 Tryd.prog 18 #[x.val, .int .i64 p, .int .i64 stop] w fun e w' => e = .returned (.bool true) ∧ Below w.heap.size w w' := by
  have HRR := Hid.mk' (rreads_any x p)
  have HRD := Hid.mk' (reads_any x p)
  have HT := Hid.mk' ht
  have hlen : (rdL x p).length ≤ 8 := by
    unfold rdL fldL
    split
    · rw [argL_len]; omega
    · split <;> split <;> split <;> simp
  generalize rdL x p = L at *
  clear ht
  unfold Is.val at *
  refine callsIn_of_wp_marks Tryd.func18 rfl trivial ?_ rfl
  simp only [Tryd.ntmps18, List.size_toArray, List.length_cons, List.length_nil, Nat.reduceAdd, Nat.reduceSub, Array.replicate_succ, Array.replicate_zero, List.push_toArray, List.append_toArray, List.nil_append, List.cons_append]
  gi_wp2_with fail
  refine ⟨trivial, ?_⟩
  refine (callsIn_wide.2 (HRR.out _)).mono ?_
  rintro e w1 ⟨v, rfl, hown, hb1⟩
  obtain ⟨va, vc, rfl⟩ := gown_form hown
  have b3 : Below w.heap.size w (((w.alloc (oX x)).alloc (.cells #[.int .i64 stop] 3)).alloc (.cells #[.bool false] 4)) := below3 _ _ _ _
  have hs1 := hb1.size
  simp only [World.size_alloc] at hs1
  have bx : ∀ j v, (#[.int .i64 x.op, .int .i64 x.a, .int .i64 x.b, .int .i64 x.c, .int .i64 x.n] : Array Value)[j]? = some v → ∀ o o', ((w1.alloc o).alloc o').cell? ⟨w.heap.size, j, none⟩ = some v := fun j v hj o o' => cell_kept_below (cell_kept_below (new_cell w _ 27 j v hj) (Below.one (Below.one (Below.refl _ _) (.cells #[.int .i64 stop] 3)) (.cells #[.bool false] 4))) (Below.one (Below.one hb1 o) o')
  have bs : Boxed (((w.alloc (oX x)).alloc (.cells #[.int .i64 stop] 3)).alloc (.cells #[.bool false] 4)) (w.heap.size + 1) 3 (.int .i64 stop) := by
    have := (Boxed.new (w.alloc (oX x)) 3 (.int .i64 stop)).alloc (.cells #[.bool false] 4)
    rwa [World.size_alloc] at this
  have br : Boxed (((w.alloc (oX x)).alloc (.cells #[.int .i64 stop] 3)).alloc (.cells #[.bool false] 4)) (w.heap.size + 1 + 1) 4 (.bool false) := by
    have := Boxed.new ((w.alloc (oX x)).alloc (.cells #[.int .i64 stop] 3)) 4 (.bool false)
    rwa [World.size_alloc, World.size_alloc] at this
  have b5 := Below.one (Below.one (Below.on b3 hb1) (.cells #[.slice va L.length vc] 56)) (.cells #[.int .i64 0] 3)
  have bs5 : Boxed ((w1.alloc (.cells #[.slice va L.length vc] 56)).alloc (.cells #[.int .i64 0] 3)) (w.heap.size + 1) 3 (.int .i64 stop) := ((boxed_stay bs hb1).alloc _).alloc _
  have br5 : Boxed ((w1.alloc (.cells #[.slice va L.length vc] 56)).alloc (.cells #[.int .i64 0] 3)) (w.heap.size + 1 + 1) 4 (.bool false) := ((boxed_stay br hb1).alloc _).alloc _
  have bl5 : Boxed ((w1.alloc (.cells #[.slice va L.length vc] 56)).alloc (.cells #[.int .i64 0] 3)) w1.heap.size 56 (.slice va L.length vc) := (Boxed.new w1 _ _).alloc _
  have ba5 : Boxed ((w1.alloc (.cells #[.slice va L.length vc] 56)).alloc (.cells #[.int .i64 0] 3)) (w1.heap.size + 1) 3 (.int .i64 0) := by
    have := Boxed.new (w1.alloc (.cells #[.slice va L.length vc] 56)) 3 (.int .i64 0)
    rwa [World.size_alloc] at this
  have o5 := (((own_mono hown (by simp; omega : w.heap.size ≤ _)).alloc (.cells #[.slice va L.length vc] 56)).alloc (.cells #[.int .i64 0] 3))
  have c0 := bx 0 (.int .i64 x.op) rfl (.cells #[.slice va L.length vc] 56) (.cells #[.int .i64 0] 3)
  have c1 := bx 1 (.int .i64 x.a) rfl (.cells #[.slice va L.length vc] 56) (.cells #[.int .i64 0] 3)
  have c2 := bx 2 (.int .i64 x.b) rfl (.cells #[.slice va L.length vc] 56) (.cells #[.int .i64 0] 3)
  have c3 := bx 3 (.int .i64 x.c) rfl (.cells #[.slice va L.length vc] 56) (.cells #[.int .i64 0] 3)
  have c4 := bx 4 (.int .i64 x.n) rfl (.cells #[.slice va L.length vc] 56) (.cells #[.int .i64 0] 3)
  have hz5 : ((w1.alloc (.cells #[.slice va L.length vc] 56)).alloc (.cells #[.int .i64 0] 3)).heap.size = w1.heap.size + 1 + 1 := by simp
  have HW5 := Hid.mk' (And.intro bs5 (And.intro br5 (And.intro bl5 (And.intro ba5 (And.intro o5 (And.intro b5 hz5))))))
  have HQ : Hid (∀ k, (Value.slice va L.length vc).ownBlock = some k → k < w1.heap.size) := fun k e => (hown.lt k e).2
  clear bx bs br bs5 br5 bl5 ba5 o5 b5 hz5 hown hb1 b3
  gi_wp2_with fail
  refine ⟨trivial, ?_⟩
  obtain ⟨bs5, br5, bl5, ba5, o5, b5, hz5⟩ := HW5.out
  generalize (w1.alloc (.cells #[.slice va L.length vc] 56)).alloc (.cells #[.int .i64 0] 3) = W5 at *
  generalize w1.heap.size = N1 at *
  refine (callsIn_wide.2 (HRD.out _ (HT.out.stay b5))).mono ?_
  rintro e w2 ⟨gf, B, C, rfl, hb2, htl⟩
  have hnb := htl.nb
  have hnc := htl.nc
  have hlb := htl.lb
  have hlc := htl.lc
  have I0 : TlI w N1 (N1 + 1) (w.heap.size + 1) (w.heap.size + 1 + 1) (.slice va L.length vc) stop L [] w2 :=
    ⟨(hb2.block _ br5.lt).trans br5, (hb2.block _ bs5.lt).trans bs5, (hb2.block _ bl5.lt).trans bl5, (hb2.block _ ba5.lt).trans ba5, own_stay o5 hb2, List.nil_prefix, Below.on b5 hb2, HQ.out⟩
  have hs2 := hb2.size
  clear c0 c1 c2 c3 c4 HW5 HRR HRD HT bs5 br5 bl5 ba5 o5 b5 hb2
  gi_wp2_with fail
  refine wpIn_rangeFunc_ownG rfl (by omega) (gf := gf) (lb := #[.pointer (some ⟨B, 0, none⟩), .pointer (some ⟨C, 0, none⟩)]) rfl trivial htl.enters
    (htl.stops 5 (by omega)) (fun h k => kpB_t h k) (kpB_b hlb hlc) (Below.refl _ _) (fun _ => rfl)
    (TlI w N1 (N1 + 1) (w.heap.size + 1) (w.heap.size + 1 + 1) (.slice va L.length vc) stop L) (TlX w (w.heap.size + 1 + 1) L)
    (fun pre X Y row h hg hr => h.grown (by have := I0.b.size; omega) hg hr) (fun c pre X Y row h hg hr => ?ownX) I0
    (fun r => { tmps := #[.agg #[.int .i64 x.op, .int .i64 x.a, .int .i64 x.b, .int .i64 x.c, .int .i64 x.n], .int .i64 p, .int .i64 stop, .pointer (some ⟨w.heap.size, 0, none⟩), undef, .pointer (some ⟨w.heap.size + 1, 0, none⟩), .pointer (some ⟨w.heap.size + 1 + 1, 0, none⟩), .pointer (some ⟨N1, 0, none⟩), .pointer (some ⟨N1 + 1, 0, none⟩), .int .i64 r, .agg #[.int .i64 x.op, .int .i64 x.a, .int .i64 x.b, .int .i64 x.c, .int .i64 x.n], .int .i64 p, .slice va L.length vc, .agg #[.int .i64 x.op, .int .i64 x.a, .int .i64 x.b, .int .i64 x.c, .int .i64 x.n], .int .i64 p, .func (.func gf) #[] #[.pointer (some ⟨B, 0, none⟩), .pointer (some ⟨C, 0, none⟩)], .int .i64 r, undef, undef, undef, undef, undef, undef, undef, undef, undef, undef, undef, undef, undef, undef, undef, undef, undef, undef, undef, undef, undef], defers := [] })
    ?assign ?body ?done ?stop
  case ownX =>
    obtain ⟨h1, t, h2, h3, h4⟩ := h
    exact ⟨h1, t, boxed_grown h2 hg (fun r e => (hr r e).2), h3, h4.grown hg h4.size (fun k e => Nat.le_trans I0.b.size (hr k e).1)⟩
  case assign =>
    intro l r W K hK
    gi_wp2
    exact hK
  case body =>
    intro l pre r W hi hlt
    have hb := hi.b
    have hss := hb.size
    obtain ⟨y, hy⟩ : ∃ y, L[pre.length]? = some y := ⟨_, List.getElem?_eq_getElem hlt⟩
    obtain ⟨g, rfl, hc⟩ := own_cell hi.o (j := pre.length) (u := iV y) (by rw [List.getElem?_map, hy]; rfl)
    unfold iV at hc
    have e7 := hi.l.cell
    have e8 := hi.a.cell
    have e6 := hi.r.cell
    have e5 := hi.s.cell
    have f8 := hi.a.frozen
    have f6 := hi.r.frozen
    have hge : decide ((L.length : Int) ≤ (pre.length : Int)) = false := decide_eq_false (by omega)
    have hge2 : decide (L.length ≤ pre.length) = false := decide_eq_false (by omega)
    have hli : (pre.length : Int) < (L.length : Int) := by omega
    have hn1 : ¬ (N1 + 1 = w.heap.size + 1 + 1) := by omega
    have HI := Hid.mk' hi
    have HY := Hid.mk' hy
    clear hi hy
    by_cases hr : r = y
    · have hq : (r != y) = false := bne_no hr
      have HPX := Hid.mk' (pre_next HI.out.p (by rw [HY.out, hr] : L[pre.length]? = some r))
      clear hr
      by_cases hst : (pre.length : Int) + 1 = stop
      · have hq2 : ((pre.length : Int) + 1 == stop) = true := by simp [hst]
        clear hst
        gi_wp2
        exact ⟨((KeepsOthers.setCell W _ _).trans (KeepsOthers.setCell _ _ _)).from _, rfl, true, (HI.out.r.other (by omega) _).set _, fun _ => rfl, (hb.setCell (by simp only; omega) _).setCell (by simp only; omega) _⟩
      · have hq2 : ((pre.length : Int) + 1 == stop) = false := beq_no hst
        gi_wp2
        exact ⟨(KeepsOthers.setCell W _ _).from _, kpB_set _ (by omega) (by omega), HI.out.next (by omega) (by omega) (by omega) HPX.out⟩
    · have hq : (r != y) = true := bne_of hr
      gi_wp2
      exact ⟨(KeepsOthers.setCell W _ _).from _, rfl, false, HI.out.r.set _, fun h => absurd (by have := pre_at h; rw [HY.out] at this; injection this with e; exact e.symm) hr, hb.setCell (by simp only; omega) _⟩
  case done =>
    rintro D ys W hD rfl hi hK
    have e7 := hi.l.cell
    have e8 := hi.a.cell
    have e6 := hi.r.cell
    have f6 := hi.r.frozen
    have hn1 : ¬ (N1 + 1 = w.heap.size + 1 + 1) := by omega
    have hss := hi.b.size
    have HI := Hid.mk' hi
    clear hi
    gi_wp2
    have hKZ := (KeepsOthers.setCell W ⟨w.heap.size + 1 + 1, 0, none⟩ (.bool true)).same D _ hK rfl
    have z6 := HI.out.r.set (.bool true)
    refine ⟨by simp, .inl ⟨_, _, rfl, run_takeDeferred hKZ, ?_⟩⟩
    have c6 := (put_boxed z6 (.deferred none) hKZ rfl).cell
    refine ⟨.bool true, by simp [results, Tryd.results18, go_sem, c6], rfl, ?_⟩
    exact (HI.out.b.setCell (by simp only; omega) _).trans (belowK_b (w := w) (Nat.le_refl _) _ D _ _ (by omega) hKZ rfl rfl)
  case stop =>
    rintro D c pre W hD hS ⟨rfl, t, h1, h2, h3⟩ hK
    obtain rfl := h2 hS
    gi_wp2
    refine ⟨by simp, .inl ⟨_, _, rfl, run_takeDeferred hK, ?_⟩⟩
    have c6 := (put_boxed h1 (.deferred none) hK rfl).cell
    have hss := h3.size
    refine ⟨.bool true, by simp [results, Tryd.results18, go_sem, c6], rfl, ?_⟩
    exact h3.trans (belowK_b (w := w) (Nat.le_refl _) _ D _ _ (by have := I0.b.size; omega) hK rfl rfl)
theorem told_any (x : Is) (p stop : Int) (w : World) (ht : Tab w) : Calls Tryd.prog 18 #[x.val, .int .i64 p, .int .i64 stop] w fun e w' => e = .returned (.bool true) ∧ Below w.heap.size w w' := callsIn_wide.1 (told_in x p stop w ht)
end Go.Proofs.YtlkoigdnakmdlaaDoor
