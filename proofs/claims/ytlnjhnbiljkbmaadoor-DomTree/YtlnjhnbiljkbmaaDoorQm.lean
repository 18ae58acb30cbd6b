/- dom.leaders. -/
import Derived.Test.YtlnjhnbiljkbmaaDoorJl
import Derived.Test.YtlnjhnbiljkbmaaDoorJd
namespace Go.Proofs.YtlnjhnbiljkbmaaDoor
open Go.RowKit Go.Shelf
attribute [local go_sem] Oper.semAt_some

/-- Rows told: F holds them. -/
structure Rws (N F n : Nat) (fr : Nat → List Nat) (vs : List Value) (W : World) : Prop where
  f : W.heap[F]? = some (.cells vs.toArray 34 (0, 0))
  len : vs.length = n
  rows : ∀ j, j < n → On N (fr j) (vs.getD j undef) W
  hF : N ≤ F
def LeP (l : List Is) (w : World) (e : Ending) (w' : World) : Prop := ∃ F rs vs, e = .returned (.slice (some ⟨F, 0, none⟩) rs.length rs.length) ∧ IsR l rs ∧ Rws w.heap.size F rs.length (frE (edg l rs)) vs w' ∧ Below w.heap.size w w'
set_option maxRecDepth 100000 in
set_option maxHeartbeats 4000000 in
theorem leaders_in (f : Fn) (w : World) (hi : Iss w f.ca f.code) (hc : f.code.length ≤ f.cc) : CallsIn Fence.wide 6 Tryd.prog 25 #[f.val] w (LeP f.code w) := by
  have HED : Hid (∀ F w', Below w.heap.size w w' → F < w'.heap.size → DOk F w' → Calls Tryd.prog 33 #[f.val] w' (EdPF F f.code w')) := fun F w' hb hF hD => edges_anyF f F w' (hi.stay hb) hc hF hD
  have HR : Hid (∀ w', Below w.heap.size w w' → Calls Tryd.prog 32 #[f.val] w' (ReP f.code w')) := fun w' hb => reach_any f w' (hi.stay hb)
  clear hi hc
  obtain ⟨fn, fpa, fpc, fps, frg, fwd, fca, fcc, fl⟩ := f
  unfold Fn.val at *
  simp only at HED HR ⊢
  have HB := Hid.mk' (Below.one (Below.refl _ w) (.cells #[.string fn, .slice fpa fps.length fpc, .int .i64 frg, .int .i64 fwd, .slice fca fl.length fcc] 25))
  have HX := Hid.mk' (heap_alloc_new w (.cells #[.string fn, .slice fpa fps.length fpc, .int .i64 frg, .int .i64 fwd, .slice fca fl.length fcc] 25))
  refine callsIn_of_wp_marks Tryd.func25 rfl trivial ?_ rfl
  simp only [Tryd.ntmps25, List.size_toArray, List.length_cons, List.length_nil, Nat.reduceAdd, Nat.reduceSub, Array.replicate_succ, Array.replicate_zero, List.push_toArray, List.append_toArray, List.nil_append, List.cons_append]
  gi_wp2_with fail
  refine ⟨trivial, ?_⟩
  refine (callsIn_wide.2 (HR.out _ HB.out)).mono ?_
  rintro e W1 ⟨vb, rs, rfl, hir, ho, bb1⟩
  obtain ⟨ra, rc, rfl⟩ := gown_form ho
  have hrl := hir.len
  have hmk : ∀ W, _ := fun W => run_mkR W rs.length (by omega)
  have HIR := Hid.mk' hir
  have HB1 := Hid.mk' (Below.on HB.out bb1)
  have hx1 := blk_stay HX.out bb1
  have hws1 : w.heap.size < W1.heap.size := (Array.getElem?_eq_some_iff.1 hx1).1
  obtain ⟨WA, hWA⟩ : ∃ X, X = (W1.alloc (.cells (mkR rs.length) 34)).alloc (.cells #[.slice (some ⟨W1.heap.size, 0, none⟩) rs.length rs.length] 60) := ⟨_, rfl⟩
  have hb3 : Boxed WA (W1.heap.size + 1) 60 (.slice (some ⟨W1.heap.size, 0, none⟩) rs.length rs.length) := by
    have := Boxed.new (W1.alloc (.cells (mkR rs.length) 34)) 60 (.slice (some ⟨W1.heap.size, 0, none⟩) rs.length rs.length)
    rw [World.size_alloc] at this
    rw [hWA]; exact this
  have hbA : Below W1.heap.size W1 WA := by
    rw [hWA]
    exact Below.one (Below.one (Below.refl _ W1) _) _
  have hfA : WA.heap[W1.heap.size]? = some (.cells (mkR rs.length) 34 (0, 0)) := by
    rw [hWA]
    exact (Below.heap_alloc _ _ _ (by simp)).trans (heap_alloc_new W1 _)
  have hsA : WA.heap.size = W1.heap.size + 1 + 1 := by rw [hWA]; simp
  have HLA : Hid (LD w rs.length (W1.heap.size + 1) W1.heap.size 0 (frE []) (List.replicate rs.length (.slice none 0 0)) WA) := LD.start hb3 hfA (HB1.out.trans (hbA.mono HB1.out.size)) (Nat.zero_le _)
  have hxA := blk_stay hx1 hbA
  have z0 := cell_of_obj hxA (j := 0) (v := .string fn) rfl
  have z1 := cell_of_obj hxA (j := 1) (v := .slice fpa fps.length fpc) rfl
  have z2 := cell_of_obj hxA (j := 2) (v := .int .i64 frg) rfl
  have z3 := cell_of_obj hxA (j := 3) (v := .int .i64 fwd) rfl
  have z4 := cell_of_obj hxA (j := 4) (v := .slice fca fl.length fcc) rfl
  have HWA := Hid.mk' hWA
  clear hir ho bb1 hx1 HX HB HR hbA hb3 hfA hxA hWA
  rw [HWA.out] at z0 z1 z2 z3 z4
  gi_wp2_with fail
  refine ⟨trivial, ?_⟩
  rw [← HWA.out] at z0 z1 z2 z3 z4 ⊢
  have HFA : Hid (W1.heap.size < WA.heap.size) := (by omega : W1.heap.size < WA.heap.size)
  refine (callsIn_wide.2 (HED.out W1.heap.size _ HLA.out.b HFA.out HLA.out.dok)).mono ?_
  rintro e W2 ⟨B1, B2, rs', rfl, hir', hseq, bb2⟩
  obtain rfl := hir'.one HIR.out
  have hs2 := bb2.size
  have HSQ := Hid.mk' hseq
  have HL2 : Hid (LD w rs'.length (W1.heap.size + 1) W1.heap.size W2.heap.size (frE []) (List.replicate rs'.length (.slice none 0 0)) W2) :=
    LD.start (boxed_stay HLA.out.b3 bb2) (by rw [mkR_eq]; exact blk_stay HLA.out.f bb2) (Below.on HLA.out.b bb2) (Nat.le_refl _)
  have HBW : Hid (w.heap.size ≤ W1.heap.size) := (by omega : w.heap.size ≤ W1.heap.size)
  have HME : Hid (∀ pre x, pre ++ [x] <+: edg fl rs' → x.2 < rs'.length) := by
    intro pre x hp
    have hm : x ∈ edg fl rs' := hp.subset (by simp)
    obtain ⟨k1, k2⟩ := mem_edg.1 (show (x.1, x.2) ∈ edg fl rs' from hm)
    have hn := nxt_lt k2
    have hl := (List.getElem?_eq_some_iff.1 k1).1
    rcases HIR.out with ⟨_, e⟩ | ⟨_, _, e, _⟩
    · rw [e] at hl; simp at hl
    · omega
  have HLN : Hid ((edg fl rs').length ≤ 3000) := by
    have := edU_len fl rs' rs'.length
    show _ ≤ _
    unfold edg
    omega
  clear z0 z1 z2 z3 z4 hir' hseq bb2 HED HLA HWA hmk
  gi_wp2_with fail
  refine range_o (m := 4) (gf := 40) (lb := #[.pointer (some ⟨B1, 0, none⟩), .pointer (some ⟨B2, 0, none⟩)]) rfl (enters_of Tryd.func40 (by kernel_rfl) rfl) HSQ.out (Below.refl _ _) (fun _ => rfl) (fun h k => KpF.trans h k) (fun W o' _ => KpF.put (by omega) (by omega) (by omega) W o')
    (fun pre W => ∃ vs, LD w rs'.length (W1.heap.size + 1) W1.heap.size W2.heap.size (frE pre) vs W) BkX (LD.own w frE (by omega)) (fun c => BkX.own _ c) ⟨_, HL2.out⟩ (fun x a' _ => a' = { tmps := #[.agg #[.string fn, .slice fpa fps.length fpc, .int .i64 frg, .int .i64 fwd, .slice fca fl.length fcc], .pointer (some ⟨w.heap.size, 0, none⟩), .slice none 0 0, .pointer (some ⟨W1.heap.size + 1, 0, none⟩), .int .i64 (x.1 : Int), .int .i64 (x.2 : Int), .agg #[.string fn, .slice fpa fps.length fpc, .int .i64 frg, .int .i64 fwd, .slice fca fl.length fcc], .slice ra rs'.length rc, .int .i64 (rs'.length : Int), .slice (some ⟨W1.heap.size, 0, none⟩) rs'.length rs'.length, .agg #[.string fn, .slice fpa fps.length fpc, .int .i64 frg, .int .i64 fwd, .slice fca fl.length fcc], .func (.func 40) #[] #[.pointer (some ⟨B1, 0, none⟩), .pointer (some ⟨B2, 0, none⟩)], .int .i64 (x.1 : Int), .int .i64 (x.2 : Int), undef, undef, undef, undef, undef, undef, undef, undef, undef, undef, undef, undef, undef], defers := [] }) (fun x a' _ W W' row h _ _ => h) ?assign ?body ?done ?stop
  case assign =>
    intro l pre x W hi _
    gi_wp2
    exact ⟨keepsFrom_refl' _ _, KpF.refl _ _ _ _ _, hi, trivial⟩
  case stop =>
    rintro c pre W _ h _
    exact h.elim
  case done =>
    rintro W4 ⟨vs, hi4⟩ hK4
    have e3 := hi4.b3.cell
    have HI := Hid.mk' hi4
    clear hi4
    gi_wp2
    refine ⟨by simp, .inl ⟨_, _, rfl, run_takeDeferred hK4, ?_⟩⟩
    have hg := grownBy_putObj' W4 W2.heap.size (.deferred none)
    have hr : ∀ r, some W2.heap.size = some r → ∃ o : Obj, W4.heap[r]? = some o ∧ o.isCells = false := fun r e => by cases e; exact ⟨_, hK4, rfl⟩
    refine ⟨.slice (some ⟨W1.heap.size, 0, none⟩) rs'.length rs'.length, by simp [results, Tryd.results25, go_sem], _, rs', vs, rfl, HIR.out, ⟨cells_grown HI.out.f hg hr, HI.out.len, fun j hj => own_mono (own_grown (HI.out.rows j hj) hg hr) (by omega), by omega⟩, ?_⟩
    exact HI.out.b.trans (belowK_b (w := w) (Nat.le_refl _) _ _ _ _ (by omega) hK4 rfl rfl)
  case body =>
    rintro l pre x a' W ⟨vs, hi⟩ rfl hpx
    have hx2 := HME.out pre x hpx
    have HI := Hid.mk' hi
    obtain ⟨x1, x2⟩ := x
    simp only at hx2 ⊢
    by_cases hz : x2 = 0
    · have hq : ((x2 : Int) != 0) = false := bne_no (by omega)
      have HE : Hid (∀ j, frE (pre ++ [(x1, x2)]) j = frE pre j) := fun j => by rw [frE_snoc, if_neg (by omega)]
      clear hz
      gi_wp2
      refine ⟨keepsFrom_refl' _ _, KpF.refl _ _ _ _ _, vs, ?_⟩
      have h := HI.out
      exact ⟨h.b3, h.f, h.len, fun j hj => by rw [HE.out]; exact h.rows j hj, h.ap, h.b, h.sz⟩
    · have hq : ((x2 : Int) != 0) = true := bne_of (by omega)
      have hx2i : (x2 : Int) < (rs'.length : Int) := by omega
      have HE1 : Hid (frE (pre ++ [(x1, x2)]) x2 = frE pre x2 ++ [x1]) := (by rw [frE_snoc, if_pos ⟨rfl, hz⟩] : _ = _)
      have HE2 : Hid (∀ j, j ≠ x2 → frE (pre ++ [(x1, x2)]) j = frE pre j) := fun j hj => by rw [frE_snoc, if_neg (by omega)]
      have hle : (frE pre x2).length ≤ 3000 := by
        have h1 := frE_len pre x2
        have h2 := (List.IsPrefix.trans (List.prefix_append _ _) hpx).length_le
        have := HLN.out
        omega
      have HLD := Hid.mk' HI.out.drew
      have hvl : x2 < vs.length := by have := HI.out.len; omega
      have HOA := Hid.mk' (on_app_at (HLD.out.rows x2 hx2) HLD.out.sz (by omega) x1 34)
      have HS0 : Hid (W.drew.cell? ⟨W1.heap.size + 1, 0, none⟩ = some (.slice (some ⟨W1.heap.size, 0, none⟩) rs'.length rs'.length) ∧ W.drew.cell? ⟨W1.heap.size, x2, none⟩ = some (vs.getD x2 undef)) :=
        ⟨HLD.out.b3.cell, cell_of_obj HLD.out.f (by rw [List.getElem?_toArray]; exact vs_at hvl)⟩
      have HS1 : Hid (∀ W3 : World, W.drew.grownBy W3 (vs.getD x2 undef).ownBlock → (W3.cell? ⟨W1.heap.size + 1, 0, none⟩ = some (.slice (some ⟨W1.heap.size, 0, none⟩) rs'.length rs'.length) ∧ W3.cell? ⟨W1.heap.size, x2, none⟩ = some (vs.getD x2 undef)) ∧ W3.frozen? ⟨W1.heap.size, x2, none⟩ = false) := fun W3 hg => by
        have hF := (hg.block W1.heap.size (Array.getElem?_eq_some_iff.1 HLD.out.f).1 (Ne.symm (row_ne HLD.out.f (HLD.out.rows x2 hx2)))).trans HLD.out.f
        have hB := HLD.out.b3.kept hg fun e => by have := own_base (HLD.out.rows x2 hx2) _ e.symm; omega
        exact ⟨⟨hB.cell, cell_of_obj hF (by rw [List.getElem?_toArray]; exact vs_at hvl)⟩, Lib.frozen_of_heap hF x2⟩
      have HNX : Hid (∀ (W3 : World) (v3 : Value), On W2.heap.size (frE pre x2 ++ [x1]) v3 W3 → W.drew.grownBy W3 (vs.getD x2 undef).ownBlock → (v3.ownBlock = (vs.getD x2 undef).ownBlock ∨ v3.ownBlock = some (W.drew.heap.size + 1)) →
          KeepsFrom W2.heap.size W (W3.setCell ⟨W1.heap.size, x2, none⟩ v3) ∧ KpF WA.heap.size W2.heap.size W1.heap.size (W2.heap.size + 1 + 1) W (W3.setCell ⟨W1.heap.size, x2, none⟩ v3) ∧ ∃ vs', LD w rs'.length (W1.heap.size + 1) W1.heap.size W2.heap.size (frE (pre ++ [(x1, x2)])) vs' (W3.setCell ⟨W1.heap.size, x2, none⟩ v3)) := fun W3 v3 h1 h2 h3 =>
        ⟨(KeepsOthers.undrew (HLD.out.others hx2 h2)).from _, (HLD.out.kp hx2 (by omega) (by omega) (by omega) h1 h2 h3).undrew, _, HLD.out.next hx2 (by omega) (by omega) (by omega) (by omega) h1 h2 h3 HE1.out HE2.out⟩
      generalize vs.getD x2 undef = q at *
      clear hz hle hi hpx
      gi_wp2_with fail
      refine region_inK (fun w' => w'.cell? ⟨W1.heap.size + 1, 0, none⟩ = some (.slice (some ⟨W1.heap.size, 0, none⟩) rs'.length rs'.length) ∧ w'.cell? ⟨W1.heap.size, x2, none⟩ = some q) 10 (by kernel_rfl) ?hq (simple_list ?hs) ?_
      case hq =>
        rintro ⟨a, w', h⟩
        exact h.2.2
      case hs =>
        intro o ho
        simp only [List.mem_cons, List.not_mem_nil, or_false] at ho
        rcases ho with rfl | rfl | rfl | rfl | rfl | rfl | rfl | rfl | rfl | rfl | rfl
        all_goals first
          | exact simple_load _ _ rfl
          | exact simple_move _ rfl
          | exact simple_index _ _ _ rfl
          | exact simple_build _ _ _ rfl
          | exact simple_append _ _ _ _ rfl
          | exact simple_store _ _ _ rfl
      simp only [List.size_toArray, List.length_cons, List.length_nil, Nat.reduceAdd]
      refine wpAnyK_takeL (i := 0) (v := ?tv0) rfl (by kernel_rfl) (by kernel_rfl) (by kernel_rfl) (by kernel_rfl) (fun _ _ _ h => h) (by rfl) ?ty0 HS0.out ?tr0
      case ty0 => (intro w' hSw; obtain ⟨hs1, hs2⟩ := hSw; go_simp; try with_reducible rfl)
      simp only [Act.put, List.setIfInBounds_toArray, List.set_cons_zero, List.set_cons_succ]
      refine wpAnyK_takeL (i := 1) (v := ?tv1) rfl (by kernel_rfl) (by kernel_rfl) (by kernel_rfl) (by kernel_rfl) (fun _ _ _ h => h) (by rfl) ?ty1 HS0.out ?tr1
      case ty1 => (intro w' hSw; obtain ⟨hs1, hs2⟩ := hSw; go_simp; try with_reducible rfl)
      simp only [Act.put, List.setIfInBounds_toArray, List.set_cons_zero, List.set_cons_succ]
      refine wpAnyK_takeL (i := 2) (v := ?tv2) rfl (by kernel_rfl) (by kernel_rfl) (by kernel_rfl) (by kernel_rfl) (fun _ _ _ h => h) (by rfl) ?ty2 HS0.out ?tr2
      case ty2 => (intro w' hSw; obtain ⟨hs1, hs2⟩ := hSw; go_simp; try with_reducible rfl)
      simp only [Act.put, List.setIfInBounds_toArray, List.set_cons_zero, List.set_cons_succ]
      refine wpAnyK_takeL (i := 3) (v := ?tv3) rfl (by kernel_rfl) (by kernel_rfl) (by kernel_rfl) (by kernel_rfl) (fun _ _ _ h => h) (by rfl) ?ty3 HS0.out ?tr3
      case ty3 => (intro w' hSw; obtain ⟨hs1, hs2⟩ := hSw; go_simp; try with_reducible rfl)
      simp only [Act.put, List.setIfInBounds_toArray, List.set_cons_zero, List.set_cons_succ]
      refine wpAnyK_takeL (i := 4) (v := ?tv4) rfl (by kernel_rfl) (by kernel_rfl) (by kernel_rfl) (by kernel_rfl) (fun _ _ _ h => h) (by rfl) ?ty4 HS0.out ?tr4
      case ty4 => (intro w' hSw; obtain ⟨hs1, hs2⟩ := hSw; go_simp; try with_reducible rfl)
      simp only [Act.put, List.setIfInBounds_toArray, List.set_cons_zero, List.set_cons_succ]
      refine wpAnyK_takeL (i := 5) (v := ?tv5) rfl (by kernel_rfl) (by kernel_rfl) (by kernel_rfl) (by kernel_rfl) (fun _ _ _ h => h) (by rfl) ?ty5 HS0.out ?tr5
      case ty5 => (intro w' hSw; obtain ⟨hs1, hs2⟩ := hSw; go_simp; try with_reducible rfl)
      simp only [Act.put, List.setIfInBounds_toArray, List.set_cons_zero, List.set_cons_succ]
      refine wpAnyK_takeL (i := 6) (v := ?tv6) rfl (by kernel_rfl) (by kernel_rfl) (by kernel_rfl) (by kernel_rfl) (fun _ _ _ h => h) (by rfl) ?ty6 HS0.out ?tr6
      case ty6 => (intro w' hSw; obtain ⟨hs1, hs2⟩ := hSw; go_simp; try with_reducible rfl)
      simp only [Act.put, List.setIfInBounds_toArray, List.set_cons_zero, List.set_cons_succ]
      refine wpAnyK_one (i := 7) (by kernel_rfl) rfl (fun K hK => ?_)
      go_simp
      refine hK.out _ _ (fun _ => (HS1.out _ (World.grownBy_alloc _ _ _)).1) ?_
      clear hK K
      refine wpAnyK_one (i := 8) (by kernel_rfl) rfl (fun K hK => ?_)
      refine step_app rfl _ _ 34 34 _ _ rfl rfl rfl HOA.out ?_
      rintro v3 W3 ⟨on3, gr3, ow3⟩
      obtain ⟨a3, c3, rfl⟩ := gown_form on3
      obtain ⟨⟨s1, s2⟩, s3⟩ := HS1.out W3 gr3
      refine hK.out _ _ (fun _ => ⟨s1, s2⟩) ?_
      clear hK K
      refine wpAnyK_one (i := 9) (by kernel_rfl) rfl (fun K hK => ?_)
      go_simp
      refine hK.out _ _ (fun _ => ⟨s1, s2⟩) ?_
      clear hK K
      refine wpAnyK_one (i := 10) (by kernel_rfl) rfl (fun K hK => ?_)
      go_simp
      refine hK.out _ _ (fun h => absurd rfl h) ?_
      refine wpAnyK_done (by kernel_rfl) ?_ _
      have hfin := HNX.out W3 _ on3 gr3 ow3
      rw [show (frE pre x2 ++ [x1]).length = (frE pre x2).length + 1 by simp] at hfin
      exact hfin
theorem leaders_any (f : Fn) (w : World) (hi : Iss w f.ca f.code) (hc : f.code.length ≤ f.cc) : Calls Tryd.prog 25 #[f.val] w (LeP f.code w) := callsIn_wide.1 (leaders_in f w hi hc)
end Go.Proofs.YtlnjhnbiljkbmaaDoor
