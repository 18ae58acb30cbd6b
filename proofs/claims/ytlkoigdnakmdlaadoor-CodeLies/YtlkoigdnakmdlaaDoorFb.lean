/- The law's own question that is asked first: it is answered yes. -/
import Derived.Test.YtlkoigdnakmdlaaDoorFa
namespace Go.Proofs.YtlkoigdnakmdlaaDoor
open Go.RowKit Go.Shelf
attribute [local go_sem] Oper.semAt_some

theorem nil_no (gf B C : Nat) (w : World) : (binOp BinOp.eql 48 (.func (.func gf) #[] #[.pointer (some ⟨B, 0, none⟩), .pointer (some ⟨C, 0, none⟩)]) Value.nilFunc).run Tryd.prog w = .ok (.bool false) w := by kernel_rfl
def nF (l : List Int) : Int := l.foldl (fun n r => wrap64 (wrap64 (10 * n) + r)) 0
theorem nF_snoc (l : List Int) (r : Int) : nF (l ++ [r]) = wrap64 (wrap64 (10 * nF l) + r) := by unfold nF; rw [List.foldl_append]; rfl
theorem FixM.set {W : World} {h : Nat} {b : Int} (k : FixM W h b) {g : Nat} (h0 : g ≠ h) (h1 : g ≠ h + 1) (h2 : g ≠ h + 1 + 1) (i : Nat) (v : Value) : FixM (W.setCell ⟨g, i, none⟩ v) h b :=
  ⟨(Below.heap_setCell _ _ _ _ h0.symm).trans k.c, (Below.heap_setCell _ _ _ _ h1.symm).trans k.f, (Below.heap_setCell _ _ _ _ h2.symm).trans k.m⟩
theorem FixM.three {W : World} {h : Nat} (k : FixM W h 0) : FixM (W.setCell ⟨h, 2, none⟩ (.int .i64 3)) h 3 := by
  refine ⟨?_, (Below.heap_setCell _ _ _ _ (by simp only; omega)).trans k.f, (Below.heap_setCell _ _ _ _ (by simp only; omega)).trans k.m⟩
  have := heap_setCell_same W h 2 _ _ (.int .i64 3) k.c
  simpa using this
theorem FixM.c0 {W : World} {h : Nat} {b : Int} (k : FixM W h b) : W.cell? ⟨h + 1 + 1, 0, none⟩ = some (.slice none 0 0) := Lib.cell_of_heap k.m 0
theorem FixM.c1 {W : World} {h : Nat} {b : Int} (k : FixM W h b) : W.cell? ⟨h + 1 + 1, 1, none⟩ = some (.slice (some ⟨h + 1, 0, none⟩) 1 1) := Lib.cell_of_heap k.m 1
theorem K_may0 (h : Nat) (W : World) (ht : Tab W) (hm : FixM W h 0) : Calls Tryd.prog 20 #[.agg #[.slice none 0 0, .slice (some ⟨h + 1, 0, none⟩) 1 1]] W fun e w' => e = .returned (.agg #[.int .i64 0, .int .i64 0, .int .i64 0]) ∧ Below W.heap.size W w' := by
  have := may_any (m0 h 0) W ht (hm.in (by unfold I64; simp))
  rw [may_0] at this
  exact this
theorem K_may3 (h : Nat) (W : World) (ht : Tab W) (hm : FixM W h 3) : Calls Tryd.prog 20 #[.agg #[.slice none 0 0, .slice (some ⟨h + 1, 0, none⟩) 1 1]] W fun e w' => e = .returned (.agg #[.int .i64 62, .int .i64 0, .int .i64 0]) ∧ Below W.heap.size W w' := by
  have := may_any (m0 h 3) W ht (hm.in (by unfold I64; simp))
  rw [may_3] at this
  exact this
theorem K_f (h : Nat) (W : World) (hm : FixM W h 3) : Calls Tryd.prog 23 #[.agg #[.slice none 0 0, .slice (some ⟨h + 1, 0, none⟩) 1 1], .string ⟨#[102]⟩] W fun e w' => e = .returned (.int .i64 0) ∧ Below W.heap.size W w' := by
  have := find_any (m0 h 3) ⟨#[102]⟩ W (hm.in (by unfold I64; simp)).2.2.1
  rw [fnd_f] at this
  exact this
theorem K_g (h : Nat) (W : World) (hm : FixM W h 3) : Calls Tryd.prog 23 #[.agg #[.slice none 0 0, .slice (some ⟨h + 1, 0, none⟩) 1 1], .string ⟨#[103]⟩] W fun e w' => e = .returned (.int .i64 (-1)) ∧ Below W.heap.size W w' := by
  have := find_any (m0 h 3) ⟨#[103]⟩ W (hm.in (by unfold I64; simp)).2.2.1
  rw [fnd_g] at this
  exact this
theorem K_s (h : Nat) (W : World) (hm : FixM W h 3) : Calls Tryd.prog 25 #[.agg #[.slice none 0 0, .slice (some ⟨h + 1, 0, none⟩) 1 1], .agg #[.slice none 0 0, .slice (some ⟨h + 1, 0, none⟩) 1 1]] W fun e w' => e = .returned (.bool true) ∧ Below W.heap.size W w' := by
  have := same_any (m0 h 3) (m0 h 3) W (hm.in (by unfold I64; simp)) (hm.in (by unfold I64; simp))
  rw [sam_0] at this
  exact this
theorem K_w (W : World) (ht : Tab W) : Calls Tryd.prog 14 #[.int .i64 19] W fun e w' => e = .returned (.string ⟨#[99, 97, 108, 108]⟩) ∧ Below W.heap.size W w' := word_of 19 W ht
theorem K_v (W : World) (ht : Tab W) : Calls Tryd.prog 12 #[.int .i64 6] W fun e w' => e = .returned (.int .i64 8) ∧ Below W.heap.size W w' := weight_any 6 W ht
theorem K_k (W : World) : Calls Tryd.prog 10 #[.int .i64 0] W fun e w' => e = .returned (.bool true) ∧ w' = W := known_any 0 W
theorem K_2 (W : World) (ht : Tab W) : Calls Tryd.prog 16 #[.agg #[.int .i64 18, .int .i64 2, .int .i64 0, .int .i64 0, .int .i64 0]] W fun e w' => e = .returned (.int .i64 2) ∧ Below W.heap.size W w' := by
  have := writes_any ⟨18, 2, 0, 0, 0⟩ W ht
  rw [wr_2] at this
  exact this
structure FxI (w : World) (pre : List Int) (W : World) : Prop where
  m : FixM W w.heap.size 0
  n : Boxed W (w.heap.size + 1 + 1 + 1) 3 (.int .i64 (nF pre))
  b : Below w.heap.size w W
theorem FxI.grown {w : World} {pre : List Int} {W W' : World} (h : FxI w pre W) {row : Option Nat} {B : Nat} (hB : w.heap.size ≤ B) (hg : W.grownBy W' row) (hr : ∀ r, row = some r → B ≤ r ∧ ∃ o : Obj, W.heap[r]? = some o ∧ o.isCells = false) : FxI w pre W' :=
  ⟨h.m.grown hg (fun r e => (hr r e).2), boxed_grown h.n hg (fun r e => (hr r e).2), h.b.grown hg h.b.size (fun k e => Nat.le_trans hB (hr k e).1)⟩

set_option maxRecDepth 100000 in
set_option maxHeartbeats 4000000 in
theorem fixed_in (w : World) (ht : Tab w) : CallsIn Fence.wide 6 Tryd.prog 9 #[] w fun e w' => e = .returned (.bool true) ∧ Below w.heap.size w w' := by
  have HT := Hid.mk' ht
  have HRD := Hid.mk' (reads_any ⟨3, 1, 2, 7, 0⟩ 0)
  rw [rd_27] at HRD
  unfold Is.val at HRD
  simp only at HRD
  clear ht
  refine callsIn_of_wp_marks Tryd.func9 rfl trivial ?_ rfl
  simp only [Tryd.ntmps9, List.size_toArray, List.length_nil, Nat.reduceSub, Array.replicate_succ, Array.replicate_zero, List.push_toArray, List.append_toArray, List.nil_append, List.cons_append]
  have hm : FixM ((((w.alloc (.cells #[.int .i64 0, .int .i64 0, .int .i64 0, .int .i64 0, .int .i64 0] 27)).alloc (.cells #[.string ⟨#[102]⟩, .slice none 0 0, .int .i64 1, .int .i64 0, .slice (some ⟨w.heap.size, 0, none⟩) 1 1] 46)).alloc (.cells #[.slice none 0 0, .slice (some ⟨w.heap.size + 1, 0, none⟩) 1 1] 33)).alloc (.cells #[.int .i64 0] 3)) w.heap.size 0 := by
    refine ⟨?_, ?_, ?_⟩
    · rw [Below.heap_alloc _ _ _ (by simp; omega), Below.heap_alloc _ _ _ (by simp; omega), Below.heap_alloc _ _ _ (by simp)]; exact heap_alloc_new _ _
    · rw [Below.heap_alloc _ _ _ (by simp), Below.heap_alloc _ _ _ (by simp)]
      have := heap_alloc_new (w.alloc (.cells #[.int .i64 0, .int .i64 0, .int .i64 0, .int .i64 0, .int .i64 0] 27)) (.cells #[.string ⟨#[102]⟩, .slice none 0 0, .int .i64 1, .int .i64 0, .slice (some ⟨w.heap.size, 0, none⟩) 1 1] 46)
      rwa [World.size_alloc] at this
    · rw [Below.heap_alloc _ _ _ (by simp)]
      have := heap_alloc_new ((w.alloc (.cells #[.int .i64 0, .int .i64 0, .int .i64 0, .int .i64 0, .int .i64 0] 27)).alloc (.cells #[.string ⟨#[102]⟩, .slice none 0 0, .int .i64 1, .int .i64 0, .slice (some ⟨w.heap.size, 0, none⟩) 1 1] 46)) (.cells #[.slice none 0 0, .slice (some ⟨w.heap.size + 1, 0, none⟩) 1 1] 33)
      rwa [World.size_alloc, World.size_alloc] at this
  have hn : Boxed ((((w.alloc (.cells #[.int .i64 0, .int .i64 0, .int .i64 0, .int .i64 0, .int .i64 0] 27)).alloc (.cells #[.string ⟨#[102]⟩, .slice none 0 0, .int .i64 1, .int .i64 0, .slice (some ⟨w.heap.size, 0, none⟩) 1 1] 46)).alloc (.cells #[.slice none 0 0, .slice (some ⟨w.heap.size + 1, 0, none⟩) 1 1] 33)).alloc (.cells #[.int .i64 0] 3)) (w.heap.size + 1 + 1 + 1) 3 (.int .i64 0) := by
    have := Boxed.new (((w.alloc (.cells #[.int .i64 0, .int .i64 0, .int .i64 0, .int .i64 0, .int .i64 0] 27)).alloc (.cells #[.string ⟨#[102]⟩, .slice none 0 0, .int .i64 1, .int .i64 0, .slice (some ⟨w.heap.size, 0, none⟩) 1 1] 46)).alloc (.cells #[.slice none 0 0, .slice (some ⟨w.heap.size + 1, 0, none⟩) 1 1] 33)) 3 (.int .i64 0)
    rwa [World.size_alloc, World.size_alloc, World.size_alloc] at this
  have hb : Below w.heap.size w ((((w.alloc (.cells #[.int .i64 0, .int .i64 0, .int .i64 0, .int .i64 0, .int .i64 0] 27)).alloc (.cells #[.string ⟨#[102]⟩, .slice none 0 0, .int .i64 1, .int .i64 0, .slice (some ⟨w.heap.size, 0, none⟩) 1 1] 46)).alloc (.cells #[.slice none 0 0, .slice (some ⟨w.heap.size + 1, 0, none⟩) 1 1] 33)).alloc (.cells #[.int .i64 0] 3)) := Below.one (below3 _ _ _ _) _
  have hz : ((((w.alloc (.cells #[.int .i64 0, .int .i64 0, .int .i64 0, .int .i64 0, .int .i64 0] 27)).alloc (.cells #[.string ⟨#[102]⟩, .slice none 0 0, .int .i64 1, .int .i64 0, .slice (some ⟨w.heap.size, 0, none⟩) 1 1] 46)).alloc (.cells #[.slice none 0 0, .slice (some ⟨w.heap.size + 1, 0, none⟩) 1 1] 33)).alloc (.cells #[.int .i64 0] 3)).heap.size = w.heap.size + 1 + 1 + 1 + 1 := by simp
  have HW := Hid.mk' (And.intro hm (And.intro hn (And.intro hb hz)))
  clear hm hn hb hz
  gi_wp2_with fail
  refine ⟨trivial, ?_⟩
  obtain ⟨hm, hn, hb, hz⟩ := HW.out
  generalize (((w.alloc (.cells #[.int .i64 0, .int .i64 0, .int .i64 0, .int .i64 0, .int .i64 0] 27)).alloc (.cells #[.string ⟨#[102]⟩, .slice none 0 0, .int .i64 1, .int .i64 0, .slice (some ⟨w.heap.size, 0, none⟩) 1 1] 46)).alloc (.cells #[.slice none 0 0, .slice (some ⟨w.heap.size + 1, 0, none⟩) 1 1] 33)).alloc (.cells #[.int .i64 0] 3) = W4 at *
  refine (callsIn_wide.2 (HRD.out _ (HT.out.stay hb))).mono ?_
  rintro e w2 ⟨gf, B, C, rfl, hb2, htl⟩
  have hnb := htl.nb
  have hnc := htl.nc
  have hlb := htl.lb
  have hlc := htl.lc
  have I0 : FxI w [] w2 := ⟨hm.stay hb2, boxed_stay hn hb2, Below.on hb hb2⟩
  have hs2 := hb2.size
  clear HW hm hn hb hb2 HRD
  have hnil := nil_no gf B C
  gi_wp2_with fail
  clear hnil
  refine wpIn_rangeFunc_ownG rfl (by omega) (gf := gf) (lb := #[.pointer (some ⟨B, 0, none⟩), .pointer (some ⟨C, 0, none⟩)]) rfl trivial htl.enters
    (htl.stops 5 (by omega)) (fun h k => kpB_t h k) (kpB_b hlb hlc) (Below.refl _ _) (fun _ => rfl)
    (FxI w) (fun _ _ _ => False)
    (fun pre X Y row h hg hr => h.grown (by have := I0.b.size; omega) hg hr) (fun c pre X Y row h hg hr => h) I0
    (fun r => { tmps := #[.bool false, .pointer (some ⟨w.heap.size + 1 + 1, 0, none⟩), .pointer (some ⟨w.heap.size + 1 + 1 + 1, 0, none⟩), .func (.func gf) #[] #[.pointer (some ⟨B, 0, none⟩), .pointer (some ⟨C, 0, none⟩)], .int .i64 r, undef, .agg #[.int .i64 0, .int .i64 0, .int .i64 0, .int .i64 0, .int .i64 0], .slice (some ⟨w.heap.size, 0, none⟩) 1 1, .agg #[.string ⟨#[102]⟩, .slice none 0 0, .int .i64 1, .int .i64 0, .slice (some ⟨w.heap.size, 0, none⟩) 1 1], .slice (some ⟨w.heap.size + 1, 0, none⟩) 1 1, .agg #[.slice none 0 0, .slice (some ⟨w.heap.size + 1, 0, none⟩) 1 1], .agg #[.int .i64 3, .int .i64 1, .int .i64 2, .int .i64 7, .int .i64 0], .func (.func gf) #[] #[.pointer (some ⟨B, 0, none⟩), .pointer (some ⟨C, 0, none⟩)], .func (.func gf) #[] #[.pointer (some ⟨B, 0, none⟩), .pointer (some ⟨C, 0, none⟩)], .bool false, .func (.func gf) #[] #[.pointer (some ⟨B, 0, none⟩), .pointer (some ⟨C, 0, none⟩)], .int .i64 r, undef, undef, undef, undef, undef, undef, undef, undef, undef, undef, undef, undef, undef, undef, undef, undef, undef, undef, undef, undef, undef, undef, undef, undef, undef, undef, undef, undef, undef, undef, undef, undef, undef, undef, undef, undef, undef, undef, undef, undef, undef, undef, undef, undef, undef, undef, undef, undef, undef, undef, undef, undef, undef, undef, undef, undef, undef], defers := [] })
    ?assign ?body ?done ?stop
  case assign =>
    intro l r W K hK
    gi_wp2
    exact hK
  case body =>
    intro l pre r W hi hlt
    have hss := hi.b.size
    have e3 := hi.n.cell
    have f3 := hi.n.frozen
    have HI := Hid.mk' hi
    clear hi
    gi_wp2
    refine ⟨(KeepsOthers.setCell W _ _).from _, kpB_set _ (by omega) (by omega), ⟨?_, ?_, ?_⟩⟩
    · exact HI.out.m.set (by omega) (by omega) (by omega) _ _
    · have := HI.out.n.set (.int .i64 (wrap64 (wrap64 (10 * nF pre) + r)))
      rw [nF_snoc]; exact this
    · exact HI.out.b.setCell (by simp only; omega) _
  case stop =>
    intro D c pre W hD hS h hK
    exact h.elim
  case done =>
    rintro D ys W hD rfl hi hK
    have hn : Boxed W (w.heap.size + 1 + 1 + 1) 3 (.int .i64 27) := by have := hi.n; rwa [show nF [2, 7] = 27 by kernel_rfl] at this
    have hss := hi.b.size
    have g0 : W.cell? ⟨w.heap.size + 1 + 1, 0, none⟩ = some (.slice none 0 0) := Lib.cell_of_heap hi.m.m 0
    have g1 : W.cell? ⟨w.heap.size + 1 + 1, 1, none⟩ = some (.slice (some ⟨w.heap.size + 1, 0, none⟩) 1 1) := Lib.cell_of_heap hi.m.m 1
    gi_wp2_with fail
    refine ⟨trivial, ?_⟩
    refine (callsIn_wide.2 (K_may0 w.heap.size W (HT.out.stay hi.b) hi.m)).mono ?_
    rintro e w3 ⟨rfl, hb3⟩
    have hb4 := Below.one hb3 (.cells #[.int .i64 0, .int .i64 0, .int .i64 0] 37)
    have m4 := hi.m.stay hb4
    have n4 := boxed_stay hn hb4
    have F4 := FAt.new w3 (0, 0, 0)
    have b4 := Below.on hi.b hb4
    have k4 := (hb4.block D (Array.getElem?_eq_some_iff.1 hK).1).trans hK
    have hs3 := hb3.size
    have hlw : w.heap.size + 1 + 1 + 1 < W.heap.size := hn.lt
    have gg0 : (w3.alloc (.cells #[.int .i64 0, .int .i64 0, .int .i64 0] 37)).cell? ⟨w.heap.size + 1 + 1, 0, none⟩ = some (.slice none 0 0) := Lib.cell_of_heap m4.m 0
    have gg1 : (w3.alloc (.cells #[.int .i64 0, .int .i64 0, .int .i64 0] 37)).cell? ⟨w.heap.size + 1 + 1, 1, none⟩ = some (.slice (some ⟨w.heap.size + 1, 0, none⟩) 1 1) := Lib.cell_of_heap m4.m 1
    have gg2 : (w3.alloc (.cells #[.int .i64 0, .int .i64 0, .int .i64 0] 37)).cell? ⟨w.heap.size + 1, 4, none⟩ = some (.slice (some ⟨w.heap.size, 0, none⟩) 1 1) := Lib.cell_of_heap m4.f 4
    have gg3 : (w3.alloc (.cells #[.int .i64 0, .int .i64 0, .int .i64 0] 37)).cell? ⟨w.heap.size, 2, none⟩ = some (.int .i64 0) := Lib.cell_of_heap m4.c 2
    have gg4 : (w3.alloc (.cells #[.int .i64 0, .int .i64 0, .int .i64 0] 37)).frozen? ⟨w.heap.size, 2, none⟩ = false := Lib.frozen_of_heap m4.c _
    have gg5 := n4.cell
    have gf0 := F4.c0
    have gf1 := F4.c1
    have gf2 := F4.c2
    have nz : ¬ (w3.heap.size = w.heap.size) := by omega
    have hg := eqGuard_f
    have hq0 := eqf0
    have hq6 := eqf62
    have b6 : Below w.heap.size w ((w3.alloc (.cells #[.int .i64 0, .int .i64 0, .int .i64 0] 37)).setCell ⟨w.heap.size, 2, none⟩ (.int .i64 3)) := b4.setCell (Nat.le_refl _) _
    have m6 := m4.three
    have k6 := (KeepsOthers.setCell (w3.alloc (.cells #[.int .i64 0, .int .i64 0, .int .i64 0] 37)) ⟨w.heap.size, 2, none⟩ (.int .i64 3)).same D _ k4 rfl
    have HX := Hid.mk' (And.intro b6 (And.intro m6 k6))
    clear m4 n4 F4 b4 k4 hb3 hb4 b6 m6 k6 g0 g1 hK hi hn
    gi_wp2_with fail
    refine ⟨trivial, ?_⟩
    obtain ⟨b6, m6, k6⟩ := HX.out
    clear HX gg0 gg1 gg2 gg3 gg4 gg5 gf0 gf1 gf2
    generalize (w3.alloc (.cells #[.int .i64 0, .int .i64 0, .int .i64 0] 37)).setCell ⟨w.heap.size, 2, none⟩ (.int .i64 3) = W6 at *
    refine (callsIn_wide.2 (K_may3 w.heap.size W6 (HT.out.stay b6) m6)).mono ?_
    rintro e w7 ⟨rfl, hb7⟩
    replace m6 := m6.stay hb7
    replace b6 := Below.on b6 hb7
    replace k6 := (hb7.block D (Array.getElem?_eq_some_iff.1 k6).1).trans k6
    have d0 := m6.c0
    have d1 := m6.c1
    clear hb7
    gi_wp2_with fail
    refine ⟨trivial, ?_⟩
    refine (callsIn_wide.2 (K_f w.heap.size w7 m6)).mono ?_
    rintro e w8 ⟨rfl, hb8⟩
    replace m6 := m6.stay hb8
    replace b6 := Below.on b6 hb8
    replace k6 := (hb8.block D (Array.getElem?_eq_some_iff.1 k6).1).trans k6
    replace d0 := m6.c0
    replace d1 := m6.c1
    clear hb8
    gi_wp2_with fail
    refine ⟨trivial, ?_⟩
    refine (callsIn_wide.2 (K_g w.heap.size w8 m6)).mono ?_
    rintro e w9 ⟨rfl, hb9⟩
    replace m6 := m6.stay hb9
    replace b6 := Below.on b6 hb9
    replace k6 := (hb9.block D (Array.getElem?_eq_some_iff.1 k6).1).trans k6
    clear hb9 d0 d1
    gi_wp2_with fail
    refine ⟨trivial, ?_⟩
    refine (callsIn_wide.2 (K_w w9 (HT.out.stay b6))).mono ?_
    rintro e w10 ⟨rfl, hb9⟩
    replace m6 := m6.stay hb9
    replace b6 := Below.on b6 hb9
    replace k6 := (hb9.block D (Array.getElem?_eq_some_iff.1 k6).1).trans k6
    clear hb9
    gi_wp2_with fail
    refine ⟨trivial, ?_⟩
    refine (callsIn_wide.2 (K_v w10 (HT.out.stay b6))).mono ?_
    rintro e w11 ⟨rfl, hb9⟩
    replace m6 := m6.stay hb9
    replace b6 := Below.on b6 hb9
    replace k6 := (hb9.block D (Array.getElem?_eq_some_iff.1 k6).1).trans k6
    clear hb9
    gi_wp2_with fail
    refine ⟨trivial, ?_⟩
    refine (callsIn_wide.2 (K_k w11)).mono ?_
    rintro e w12 ⟨rfl, rfl⟩
    gi_wp2_with fail
    refine ⟨trivial, ?_⟩
    refine (callsIn_wide.2 (K_2 w12 (HT.out.stay b6))).mono ?_
    rintro e w13 ⟨rfl, hb9⟩
    replace m6 := m6.stay hb9
    replace b6 := Below.on b6 hb9
    replace k6 := (hb9.block D (Array.getElem?_eq_some_iff.1 k6).1).trans k6
    have d0 := m6.c0
    have d1 := m6.c1
    clear hb9
    gi_wp2_with fail
    refine ⟨trivial, ?_⟩
    refine (callsIn_wide.2 (K_s w.heap.size w13 m6)).mono ?_
    rintro e w14 ⟨rfl, hb9⟩
    replace b6 := Below.on b6 hb9
    replace k6 := (hb9.block D (Array.getElem?_eq_some_iff.1 k6).1).trans k6
    clear hb9 d0 d1 hg hq0 hq6
    gi_wp2_with fail
    refine ⟨by simp, .inl ⟨_, _, rfl, run_takeDeferred k6, ?_⟩⟩
    refine ⟨.bool true, by simp [results, Tryd.results9, go_sem], rfl, ?_⟩
    exact b6.trans (belowK_b (w := w) (Nat.le_refl _) _ D _ _ (by omega) k6 rfl rfl)
theorem fixed_any (w : World) (ht : Tab w) : Calls Tryd.prog 9 #[] w fun e w' => e = .returned (.bool true) ∧ Below w.heap.size w w' := callsIn_wide.1 (fixed_in w ht)
end Go.Proofs.YtlkoigdnakmdlaaDoor
