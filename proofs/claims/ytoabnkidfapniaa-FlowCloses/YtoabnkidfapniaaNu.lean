/- The law's own sample; calls whose answers the document fixes. -/
import Derived.Test.YtoabnkidfapniaaNs
namespace Go.Proofs.Ytoabnkidfapniaa
open Go.RowKit Go.Shelf
attribute [local go_sem] Oper.semAt_some

def smp : List Is := [⟨17, 0, 1, 0, 4⟩, ⟨15, 2, 0, 0, 3⟩, ⟨3, 3, 3, 0, 0⟩, ⟨18, 0, 0, 0, 0⟩, ⟨0, 3, 0, 0, 0⟩, ⟨14, 0, 0, 0, 5⟩]
def smr : List Bool := [true, true, true, true, true, false]
theorem smp_nx : nxt smp 0 = [1, 4] ∧ nxt smp 1 = [2, 3] ∧ nxt smp 2 = [3] ∧ nxt smp 3 = [0] ∧ nxt smp 4 = [] ∧ nxt smp 5 = [5] := by decide +kernel
theorem smp_edg : edg smp smr = [(0, 1), (0, 4), (1, 2), (1, 3), (2, 3), (3, 0)] := by decide +kernel
theorem smp_blk : blk smp smr = [0, 1, 2, 3, 4] := by decide +kernel
theorem smp_r : IsR smp smr := by
  obtain ⟨n0, n1, n2, n3, n4, n5⟩ := smp_nx
  have r0 : Rch smp 0 := .zero
  have r1 : Rch smp 1 := .step r0 (by rw [n0]; decide)
  have r4 : Rch smp 4 := .step r0 (by rw [n0]; decide)
  have r2 : Rch smp 2 := .step r1 (by rw [n1]; decide)
  have r3 : Rch smp 3 := .step r1 (by rw [n1]; decide)
  refine isR_of (by decide) (by decide) rfl rfl (fun u v hu hv => ?_) (fun v hv => ?_)
  · match u, hu with
    | 0, _ => rw [n0] at hv; simp at hv; rcases hv with rfl | rfl <;> rfl
    | 1, _ => rw [n1] at hv; simp at hv; rcases hv with rfl | rfl <;> rfl
    | 2, _ => rw [n2] at hv; simp at hv; subst hv; rfl
    | 3, _ => rw [n3] at hv; simp at hv; subst hv; rfl
    | 4, _ => rw [n4] at hv; cases hv
    | 5, h => cases h
    | u + 6, h => simp [smr] at h
  · match v, hv with
    | 0, _ => exact r0
    | 1, _ => exact r1
    | 2, _ => exact r2
    | 3, _ => exact r3
    | 4, _ => exact r4
    | 5, h => cases h
    | u + 6, h => simp [smr] at h
set_option maxRecDepth 100000 in
set_option maxHeartbeats 1000000 in
theorem sample_any (w : World) : Calls Try.prog 26 #[] w fun e w' => ∃ g : Fn, e = .returned g.val ∧ g.code = smp ∧ Iss w' g.ca g.code ∧ g.code.length ≤ g.cc ∧ Below w.heap.size w w' := by
  have hb := fun o o1 => Below.one (Below.one (Below.refl _ w) o) o1
  have hx := fun (T : TypeId) (c1 : Array Value) => blk_stay (heap_alloc_new w (.cells #[.string ⟨#[]⟩, .slice none 0 0, .int .i64 0, .int .i64 0, .slice (some ⟨w.heap.size + 1, 0, none⟩) 6 6] 25)) (Below.one (Below.refl _ _) (.cells c1 T))
  have z0 := fun T c1 => cell_of_obj (hx T c1) (j := 0) (v := .string ⟨#[]⟩) rfl
  have z1 := fun T c1 => cell_of_obj (hx T c1) (j := 1) (v := .slice none 0 0) rfl
  have z2 := fun T c1 => cell_of_obj (hx T c1) (j := 2) (v := .int .i64 0) rfl
  have z3 := fun T c1 => cell_of_obj (hx T c1) (j := 3) (v := .int .i64 0) rfl
  have z4 := fun T c1 => cell_of_obj (hx T c1) (j := 4) (v := .slice (some ⟨w.heap.size + 1, 0, none⟩) 6 6) rfl
  have HRW : Hid (Iss ((w.alloc (.cells #[.string ⟨#[]⟩, .slice none 0 0, .int .i64 0, .int .i64 0, .slice (some ⟨w.heap.size + 1, 0, none⟩) 6 6] 25)).alloc (.cells (smp.flatMap Is.cells).toArray 50)) (some ⟨w.heap.size + 1, 0, none⟩) smp) := by
    have := World.ownsRow_lit (base := 0) (e := 50) (size := 5) (w.alloc (.cells #[.string ⟨#[]⟩, .slice none 0 0, .int .i64 0, .int .i64 0, .slice (some ⟨w.heap.size + 1, 0, none⟩) 6 6] 25)) (smp.flatMap Is.cells).toArray 6 (Nat.zero_le _) (by unfold maxLen; omega) rfl
    rw [World.size_alloc] at this
    exact row_iss this (by decide)
  clear hx
  go_enter Try.func26, Try.ntmps26
  go_wp2
  exact bodyPost_ret (v := Fn.val ⟨⟨#[]⟩, none, 0, [], 0, 0, some ⟨w.heap.size + 1, 0, none⟩, 6, smp⟩) (by simp [results, Try.results26, go_sem, Fn.val, z0, z1, z2, z3, z4]; rfl) rfl ⟨_, rfl, rfl, HRW.out, Nat.le_refl 6, hb _ _⟩
theorem fnil_no (B C : Nat) (w : World) : (binOp BinOp.eql 46 (.func (.func 30) #[] #[.pointer (some ⟨B, 0, none⟩), .pointer (some ⟨C, 0, none⟩)]) Value.nilFunc).run Try.prog w = .ok (.bool false) w := by kernel_rfl
def nE (l : List (Nat × Nat)) : Int := l.foldl (fun n e => wrap64 (wrap64 (wrap64 (wrap64 (n * 10) + (e.1 : Int)) - (e.2 : Int)) + 5)) 0
theorem nE_snoc (l : List (Nat × Nat)) (e : Nat × Nat) : nE (l ++ [e]) = wrap64 (wrap64 (wrap64 (wrap64 (nE l * 10) + (e.1 : Int)) - (e.2 : Int)) + 5) := by unfold nE; rw [List.foldl_append]; rfl
theorem nE_smp : nE (edg smp smr) = 414348 := by rw [smp_edg]; kernel_rfl
/-- What the loop holds. -/
structure FxI (w1 : World) (N : Nat) (fc : Array Value) (pre : List (Nat × Nat)) (W : World) : Prop where
  f : W.heap[N]? = some (.cells fc 25)
  n : Boxed W (N + 1) 3 (.int .i64 (nE pre))
  b : Below w1.heap.size w1 W
theorem FxI.own (w1 : World) (N : Nat) (fc : Array Value) {B : Nat} (hB : w1.heap.size ≤ B) (hN : N < B) : OwnFrom B (FxI w1 N fc) := fun _ _ _ _ h hg hr =>
  ⟨(hg.block N (Array.getElem?_eq_some_iff.1 h.f).1 (fun e => by have := (hr N e.symm).1; omega)).trans h.f, boxed_grown h.n hg (fun r e => (hr r e).2), h.b.grown hg h.b.size (fun k e => Nat.le_trans hB (hr k e).1)⟩
set_option maxRecDepth 100000 in
set_option maxHeartbeats 4000000 in
theorem fixed_in (w : World) : CallsIn Fence.wide 6 Try.prog 11 #[] w fun e w' => e = .returned (.bool true) ∧ Below w.heap.size w w' := by
  have HSA := Hid.mk' (sample_any w)
  refine callsIn_of_wp_marks Try.func11 rfl trivial ?_ rfl
  simp only [Try.ntmps11, List.size_toArray, List.length_nil, Nat.reduceSub, Array.replicate_succ, Array.replicate_zero, List.push_toArray, List.append_toArray, List.nil_append, List.cons_append]
  gi_wp2_with fail
  refine ⟨trivial, ?_⟩
  refine (callsIn_wide.2 HSA.out).mono ?_
  rintro e w1 ⟨⟨fn, fpa, fpc, fps, frg, fwd, fca, fcc, fl⟩, rfl, hfl, hi, hcc, bb1⟩
  simp only at hfl hi hcc
  have HNX : Hid (∀ w', Below w1.heap.size w1 w' → Calls Try.prog 9 #[.agg #[.string fn, .slice fpa fps.length fpc, .int .i64 frg, .int .i64 fwd, .slice fca fl.length fcc], .int .i64 1] w' (NxP [2, 3] w')) := fun w' hb => by
    have := next_any ⟨fn, fpa, fpc, fps, frg, fwd, fca, fcc, fl⟩ 1 w' (hi.stay hb)
    simp only [hfl] at this
    rw [show nxZ smp 1 = [2, 3] from smp_nx.2.1] at this
    rw [hfl]
    exact this
  have HED : Hid (∀ w', Below w1.heap.size w1 w' → Calls Try.prog 21 #[.agg #[.string fn, .slice fpa fps.length fpc, .int .i64 frg, .int .i64 fwd, .slice fca fl.length fcc]] w' (EdP fl w')) := fun w' hb => edges_any ⟨fn, fpa, fpc, fps, frg, fwd, fca, fcc, fl⟩ w' (hi.stay hb) hcc
  have HBL : Hid (∀ w', Below w1.heap.size w1 w' → Calls Try.prog 19 #[.agg #[.string fn, .slice fpa fps.length fpc, .int .i64 frg, .int .i64 fwd, .slice fca fl.length fcc]] w' (BlP fl w')) := fun w' hb => blocks_any ⟨fn, fpa, fpc, fps, frg, fwd, fca, fcc, fl⟩ w' (hi.stay hb) hcc
  have HRE : Hid (∀ w', Below w1.heap.size w1 w' → Calls Try.prog 14 #[.agg #[.string fn, .slice fpa fps.length fpc, .int .i64 frg, .int .i64 fwd, .slice fca fl.length fcc]] w' (ReP fl w')) := fun w' hb => reach_any ⟨fn, fpa, fpc, fps, frg, fwd, fca, fcc, fl⟩ w' (hi.stay hb)
  have HIR : Hid (∀ rs, IsR fl rs → rs = smr ∧ edg fl rs = edg smp smr ∧ blk fl rs = [0, 1, 2, 3, 4]) := fun rs h => by
    rw [hfl] at h ⊢
    have := h.one smp_r
    subst this
    exact ⟨rfl, rfl, smp_blk⟩
  have HB1 := Hid.mk' bb1
  clear hfl hi hcc bb1 HSA
  unfold Fn.val
  have HI0 : Hid (FxI w1 w1.heap.size #[.string fn, .slice fpa fps.length fpc, .int .i64 frg, .int .i64 fwd, .slice fca fl.length fcc] [] ((w1.alloc (.cells #[.string fn, .slice fpa fps.length fpc, .int .i64 frg, .int .i64 fwd, .slice fca fl.length fcc] 25)).alloc (.cells #[.int .i64 0] 3))) := by
    have h1 := Boxed.new (w1.alloc (.cells #[.string fn, .slice fpa fps.length fpc, .int .i64 frg, .int .i64 fwd, .slice fca fl.length fcc] 25)) 3 (.int .i64 0)
    rw [World.size_alloc] at h1
    exact ⟨blk_stay (heap_alloc_new w1 _) (Below.one (Below.refl _ _) _), h1, Below.one (Below.one (Below.refl _ w1) _) _⟩
  have HSZ : Hid (((w1.alloc (.cells #[.string fn, .slice fpa fps.length fpc, .int .i64 frg, .int .i64 fwd, .slice fca fl.length fcc] 25)).alloc (.cells #[.int .i64 0] 3)).heap.size = w1.heap.size + 1 + 1) := (by simp only [World.size_alloc] : _ = _)
  gi_wp2_with fail
  refine ⟨trivial, ?_⟩
  generalize (w1.alloc (.cells #[.string fn, .slice fpa fps.length fpc, .int .i64 frg, .int .i64 fwd, .slice fca fl.length fcc] 25)).alloc (.cells #[.int .i64 0] 3) = W2 at *
  refine (callsIn_wide.2 (HED.out _ HI0.out.b)).mono ?_
  rintro e W3 ⟨B1, B2, rs, rfl, hir, hseq, bb3⟩
  rw [(HIR.out rs hir).2.1] at hseq
  have HSQ := Hid.mk' hseq
  have I0 : FxI w1 w1.heap.size #[.string fn, .slice fpa fps.length fpc, .int .i64 frg, .int .i64 fwd, .slice fca fl.length fcc] [] W3 := ⟨blk_stay HI0.out.f bb3, boxed_stay HI0.out.n bb3, Below.on HI0.out.b bb3⟩
  have hs3 := bb3.size
  have hs2 := HSZ.out
  generalize hGN : w1.heap.size = N at *
  have HGN := Hid.mk' hGN
  generalize W2.heap.size = G2 at *
  have hnil := fnil_no B1 B2
  clear hseq hir bb3 HI0 HED HSZ hGN
  gi_wp2_with fail
  clear hnil
  refine range_o (m := 4) (gf := 30) (lb := #[.pointer (some ⟨B1, 0, none⟩), .pointer (some ⟨B2, 0, none⟩)]) rfl (enters_of Try.func30 (by kernel_rfl) rfl) HSQ.out (Below.refl _ _) (fun _ => rfl) (fun h k => kpE_t h k) (fun W o' _ => kpE_b (by omega) (by omega) W o')
    (FxI w1 N #[.string fn, .slice fpa fps.length fpc, .int .i64 frg, .int .i64 fwd, .slice fca fl.length fcc]) BkX (FxI.own w1 N _ (by have := HGN.out; omega) (by omega)) (fun c => BkX.own _ c) I0 (fun x a' _ => a' = { tmps := #[.bool false, .pointer (some ⟨N, 0, none⟩), .pointer (some ⟨N + 1, 0, none⟩), .func (.func 30) #[] #[.pointer (some ⟨B1, 0, none⟩), .pointer (some ⟨B2, 0, none⟩)], .int .i64 (x.1 : Int), .int .i64 (x.2 : Int), .agg #[.string fn, .slice fpa fps.length fpc, .int .i64 frg, .int .i64 fwd, .slice fca fl.length fcc], .agg #[.string fn, .slice fpa fps.length fpc, .int .i64 frg, .int .i64 fwd, .slice fca fl.length fcc], .func (.func 30) #[] #[.pointer (some ⟨B1, 0, none⟩), .pointer (some ⟨B2, 0, none⟩)], .func (.func 30) #[] #[.pointer (some ⟨B1, 0, none⟩), .pointer (some ⟨B2, 0, none⟩)], .bool false, .func (.func 30) #[] #[.pointer (some ⟨B1, 0, none⟩), .pointer (some ⟨B2, 0, none⟩)], .int .i64 (x.1 : Int), .int .i64 (x.2 : Int), undef, undef, undef, undef, undef, undef, undef, undef, undef, undef, undef, undef, undef, undef, undef, undef, undef, undef, undef, undef, undef, undef, undef, undef, undef, undef, undef], defers := [] }) (fun x a' _ W W' row h _ _ => h) ?assign ?body ?done ?stop
  case assign =>
    intro l pre x W hi _
    gi_wp2
    exact ⟨keepsFrom_refl' _ _, kpE_refl _ _ _ _, hi, trivial⟩
  case body =>
    rintro l pre x a' W hi rfl hpx
    have e2 := hi.n.cell
    have f2 := hi.n.frozen
    have HI := Hid.mk' hi
    have HSN := Hid.mk' (nE_snoc pre x)
    obtain ⟨x1, x2⟩ := x
    simp only at HSN ⊢
    clear hi hpx
    generalize nE pre = z at *
    gi_wp2
    refine ⟨(KeepsOthers.setCell W _ _).from _, kpE_set (.inl (by omega)) (by omega) _ _, ⟨(Below.heap_setCell _ _ _ _ (by simp only; omega)).trans HI.out.f, ?_, HI.out.b.setCell (by have := HGN.out; simp only; omega) _⟩⟩
    rw [HSN.out]
    exact HI.out.n.set _
  case stop =>
    rintro c pre W _ h _
    exact h.elim
  case done =>
    rintro W4 hi4 hK4
    have hn4 := hi4.n
    rw [nE_smp] at hn4
    have HZ : Hid (∀ W, Below W4.heap.size W4 W → W.heap[N]? = some (.cells #[.string fn, .slice fpa fps.length fpc, .int .i64 frg, .int .i64 fwd, .slice fca fl.length fcc] 25) ∧ Boxed W (N + 1) 3 (.int .i64 414348) ∧ Below N w1 W ∧ W.heap[W3.heap.size]? = some (.deferred (some []))) := fun W hb => ⟨blk_stay hi4.f hb, boxed_stay hn4 hb, by have := hi4.b.trans (hb.mono hi4.b.size); rwa [HGN.out] at this, blk_stay hK4 hb⟩
    have HB4 := Hid.mk' (Below.refl W4.heap.size W4)
    clear hi4 hK4 hn4 I0 HSQ
    have z0 := cell_of_obj (HZ.out W4 HB4.out).1 (j := 0) (v := .string fn) rfl
    have z1 := cell_of_obj (HZ.out W4 HB4.out).1 (j := 1) (v := .slice fpa fps.length fpc) rfl
    have z2 := cell_of_obj (HZ.out W4 HB4.out).1 (j := 2) (v := .int .i64 frg) rfl
    have z3 := cell_of_obj (HZ.out W4 HB4.out).1 (j := 3) (v := .int .i64 fwd) rfl
    have z4 := cell_of_obj (HZ.out W4 HB4.out).1 (j := 4) (v := .slice fca fl.length fcc) rfl
    gi_wp2_with fail
    refine ⟨trivial, ?_⟩
    refine (callsIn_wide.2 (HNX.out _ (HZ.out _ HB4.out).2.2.1)).mono ?_
    rintro e W5 ⟨v5, rfl, on5, bb5⟩
    obtain ⟨a5, c5, rfl⟩ := gown_form on5
    have HB5 := Hid.mk' (Below.one bb5 (.cells #[.int .i64 2, .int .i64 3] 3))
    have HS1 := Hid.mk' (sameInts_any [2, 3] [2, 3] a5 (some ⟨W5.heap.size, 0, none⟩) c5 2 _ ((own_lst on5).stay (Below.one (Below.refl _ W5) (.cells #[.int .i64 2, .int .i64 3] 3))) (lst_new W5 #[.int .i64 2, .int .i64 3] 3 _ rfl) (by decide))
    rw [decide_eq_true rfl] at HS1
    clear on5 bb5 z0 z1 z2 z3 z4
    gi_wp2_with fail
    refine ⟨trivial, ?_⟩
    refine (callsIn_wide.2 HS1.out).mono ?_
    rintro e W6 ⟨rfl, bb6⟩
    replace HB5 := Hid.mk' (Below.on HB5.out bb6)
    clear bb6 HS1
    have z0 := cell_of_obj (HZ.out W6 HB5.out).1 (j := 0) (v := .string fn) rfl
    have z1 := cell_of_obj (HZ.out W6 HB5.out).1 (j := 1) (v := .slice fpa fps.length fpc) rfl
    have z2 := cell_of_obj (HZ.out W6 HB5.out).1 (j := 2) (v := .int .i64 frg) rfl
    have z3 := cell_of_obj (HZ.out W6 HB5.out).1 (j := 3) (v := .int .i64 fwd) rfl
    have z4 := cell_of_obj (HZ.out W6 HB5.out).1 (j := 4) (v := .slice fca fl.length fcc) rfl
    gi_wp2_with fail
    refine ⟨trivial, ?_⟩
    refine (callsIn_wide.2 (HBL.out _ (HZ.out _ HB5.out).2.2.1)).mono ?_
    rintro e W7 ⟨v7, rs7, rfl, hir7, on7, bb7⟩
    rw [(HIR.out rs7 hir7).2.2] at on7
    obtain ⟨a7, c7, rfl⟩ := gown_form on7
    have HB7 := Hid.mk' (Below.on HB5.out (Below.one bb7 (.cells #[.int .i64 0, .int .i64 1, .int .i64 2, .int .i64 3, .int .i64 4] 3)))
    have HS2 := Hid.mk' (sameInts_any [0, 1, 2, 3, 4] [0, 1, 2, 3, 4] a7 (some ⟨W7.heap.size, 0, none⟩) c7 5 _ ((own_lst on7).stay (Below.one (Below.refl _ W7) (.cells #[.int .i64 0, .int .i64 1, .int .i64 2, .int .i64 3, .int .i64 4] 3))) (lst_new W7 #[.int .i64 0, .int .i64 1, .int .i64 2, .int .i64 3, .int .i64 4] 3 _ rfl) (by decide))
    rw [decide_eq_true rfl] at HS2
    clear on7 bb7 z0 z1 z2 z3 z4 hir7
    gi_wp2_with fail
    refine ⟨trivial, ?_⟩
    refine (callsIn_wide.2 HS2.out).mono ?_
    rintro e W8 ⟨rfl, bb8⟩
    replace HB7 := Hid.mk' (Below.on HB7.out bb8)
    clear bb8 HS2 HB5
    have z0 := cell_of_obj (HZ.out W8 HB7.out).1 (j := 0) (v := .string fn) rfl
    have z1 := cell_of_obj (HZ.out W8 HB7.out).1 (j := 1) (v := .slice fpa fps.length fpc) rfl
    have z2 := cell_of_obj (HZ.out W8 HB7.out).1 (j := 2) (v := .int .i64 frg) rfl
    have z3 := cell_of_obj (HZ.out W8 HB7.out).1 (j := 3) (v := .int .i64 fwd) rfl
    have z4 := cell_of_obj (HZ.out W8 HB7.out).1 (j := 4) (v := .slice fca fl.length fcc) rfl
    gi_wp2_with fail
    refine ⟨trivial, ?_⟩
    refine (callsIn_wide.2 (HRE.out _ (HZ.out _ HB7.out).2.2.1)).mono ?_
    rintro e W9 ⟨v9, rs9, rfl, hir9, on9, bb9⟩
    rw [(HIR.out rs9 hir9).1] at on9
    obtain ⟨a9, c9, rfl⟩ := gown_form on9
    have HB9 := Hid.mk' (Below.on HB7.out (Below.one bb9 (.cells #[.bool true, .bool true, .bool true, .bool true, .bool true, .bool false] 4)))
    have HS3 := Hid.mk' (sameBools_any smr smr a9 (some ⟨W9.heap.size, 0, none⟩) c9 6 _ ((own_lst on9).stay (Below.one (Below.refl _ W9) (.cells #[.bool true, .bool true, .bool true, .bool true, .bool true, .bool false] 4))) (lst_new W9 #[.bool true, .bool true, .bool true, .bool true, .bool true, .bool false] 4 _ rfl) (by decide))
    rw [decide_eq_true rfl] at HS3
    clear on9 bb9 z0 z1 z2 z3 z4 hir9
    gi_wp2_with fail
    refine ⟨trivial, ?_⟩
    refine (callsIn_wide.2 HS3.out).mono ?_
    rintro e WA ⟨rfl, bbA⟩
    replace HB9 := Hid.mk' (Below.on HB9.out bbA)
    have e2 := (HZ.out WA HB9.out).2.1.cell
    have HKA := Hid.mk' (HZ.out WA HB9.out).2.2
    clear bbA HS3 HB7
    gi_wp2
    obtain ⟨hbA, hKA⟩ := HKA.out
    refine ⟨by simp, .inl ⟨_, _, rfl, run_takeDeferred hKA, ?_⟩⟩
    refine ⟨.bool true, by simp [results, Try.results11, go_sem], rfl, ?_⟩
    have hws := HB1.out.size
    have hgn := HGN.out
    exact (HB1.out.trans (hbA.mono (by omega))).trans (belowK_b (w := w) (Nat.le_refl _) _ _ _ _ (by omega) hKA rfl rfl)
theorem fixed_any (w : World) : Calls Try.prog 11 #[] w fun e w' => e = .returned (.bool true) ∧ Below w.heap.size w w' := callsIn_wide.1 (fixed_in w)
end Go.Proofs.Ytoabnkidfapniaa
