/- Where blocks begin: flow.Blocks. -/
import Derived.Test.YtoabnkidfapniaaNr
namespace Go.Proofs.Ytoabnkidfapniaa
open Go.RowKit Go.Shelf
attribute [local go_sem] Oper.semAt_some

theorem below_own {α : Type} {W0 : World} {B : Nat} (hB : W0.heap.size ≤ B) : OwnFrom B (fun (_ : α) W => Below W0.heap.size W0 W) := fun _ _ _ _ h hg hr => h.grown hg h.size (fun k e => Nat.le_trans hB (hr k e).1)
theorem al4 (W : World) (o0 o1 o2 o3 : Obj) : ((((W.alloc o0).alloc o1).alloc o2).alloc o3).drew.heap[W.heap.size]? = some o0 ∧ ((((W.alloc o0).alloc o1).alloc o2).alloc o3).drew.heap[W.heap.size + 1]? = some o1 ∧ ((((W.alloc o0).alloc o1).alloc o2).alloc o3).drew.heap[W.heap.size + 1 + 1]? = some o2 ∧ ((((W.alloc o0).alloc o1).alloc o2).alloc o3).drew.heap[W.heap.size + 1 + 1 + 1]? = some o3 ∧
    ((((W.alloc o0).alloc o1).alloc o2).alloc o3).drew.heap.size = W.heap.size + 1 + 1 + 1 + 1 ∧ Below W.heap.size W ((((W.alloc o0).alloc o1).alloc o2).alloc o3).drew := by
  have h0 := heap_alloc_new W o0
  have h1 := heap_alloc_new (W.alloc o0) o1
  have h2 := heap_alloc_new ((W.alloc o0).alloc o1) o2
  have h3 := heap_alloc_new (((W.alloc o0).alloc o1).alloc o2) o3
  have b1 := Below.one (Below.refl _ (W.alloc o0)) o1
  have b2 := Below.one (Below.refl _ ((W.alloc o0).alloc o1)) o2
  have b3 := Below.one (Below.refl _ (((W.alloc o0).alloc o1).alloc o2)) o3
  have k0 := blk_stay (blk_stay (blk_stay h0 b1) b2) b3
  have k1 := blk_stay (blk_stay h1 b2) b3
  have k2 := blk_stay h2 b3
  simp only [World.size_alloc] at k0 k1 k2 h3
  exact ⟨k0, k1, k2, h3, by show (((((W.alloc o0).alloc o1).alloc o2).alloc o3)).heap.size = _; simp only [World.size_alloc], Below.drew (Below.one (Below.one (Below.one (Below.one (Below.refl _ W) o0) o1) o2) o3)⟩
theorem own_mk {V : World} {N n g : Nat} (hn : n ≤ 1000000) (hN : N ≤ g) (h : V.heap[g]? = some (.cells (mkN n) 3)) : On N (List.replicate n 0) (.slice (some ⟨g, 0, none⟩) n n) V := by
  have ht : (mkN n).toList = List.replicate n (nV 0) := toList_madeCells_one _ _
  have hs : (mkN n).size = n := by rw [← Array.length_toList, ht]; simp
  unfold On
  rw [List.length_replicate, List.map_replicate]
  refine ⟨by simp, .inr ⟨g, n, mkN n, rfl, hN, h, Nat.le_refl _, by unfold maxLen; omega, by omega, ?_⟩⟩
  rw [ht, List.take_of_length_le (by simp)]
theorem BI.make {w W2 V : World} {n x3 xf xi gf gi : Nat} {vb : Value} {bs : List Bool} (hn : n ≤ 1000000) (hf : V.heap[gf]? = some (.cells (mkN n) 3)) (hi : V.heap[gi]? = some (.cells (mkN n) 3)) (bf : V.heap[xf]? = some (.cells #[.slice (some ⟨gf, 0, none⟩) n n] 27)) (bi : V.heap[xi]? = some (.cells #[.slice (some ⟨gi, 0, none⟩) n n] 27)) (ne : gf ≠ gi) (h1 : W2.heap.size ≤ gf) (h2 : W2.heap.size ≤ gi)
    (hb : Below W2.heap.size W2 V) (b3 : Boxed W2 x3 37 vb) (r : Ob w.heap.size bs vb W2) (b : Below w.heap.size w W2) : BI w n x3 xf xi gf gi vb bs (List.replicate n 0) (List.replicate n 0) V :=
  ⟨boxed_stay b3 hb, bf, bi, own_stay r hb, own_mk hn (Nat.le_trans b.size h1) hf, own_mk hn (Nat.le_trans b.size h2) hi, ne, Below.on b hb⟩
set_option maxRecDepth 100000 in
set_option maxHeartbeats 4000000 in
theorem blocks_in (f : Fn) (w : World) (hi : Iss w f.ca f.code) (hc : f.code.length ≤ f.cc) : CallsIn Fence.wide 6 Try.prog 19 #[f.val] w (BlP f.code w) := by
  have HED : Hid (∀ w', Below w.heap.size w w' → Calls Try.prog 21 #[f.val] w' (EdP f.code w')) := fun w' hb => edges_any f w' (hi.stay hb) hc
  have HR : Hid (∀ w', Below w.heap.size w w' → Calls Try.prog 14 #[f.val] w' (ReP f.code w')) := fun w' hb => reach_any f w' (hi.stay hb)
  clear hi hc
  obtain ⟨fn, fpa, fpc, fps, frg, fwd, fca, fcc, fl⟩ := f
  unfold Fn.val at *
  simp only at HED HR ⊢
  have HB := Hid.mk' (Below.one (Below.refl _ w) (.cells #[.string fn, .slice fpa fps.length fpc, .int .i64 frg, .int .i64 fwd, .slice fca fl.length fcc] 25))
  have HX := Hid.mk' (heap_alloc_new w (.cells #[.string fn, .slice fpa fps.length fpc, .int .i64 frg, .int .i64 fwd, .slice fca fl.length fcc] 25))
  refine callsIn_of_wp_marks Try.func19 rfl trivial ?_ rfl
  simp only [Try.ntmps19, List.size_toArray, List.length_cons, List.length_nil, Nat.reduceAdd, Nat.reduceSub, Array.replicate_succ, Array.replicate_zero, List.push_toArray, List.append_toArray, List.nil_append, List.cons_append]
  gi_wp2_with fail
  refine ⟨trivial, ?_⟩
  refine (callsIn_wide.2 (HR.out _ HB.out)).mono ?_
  rintro e W1 ⟨vb, rs, rfl, hir, ho, bb1⟩
  obtain ⟨ra, rc, rfl⟩ := gown_form ho
  rw [World.size_alloc] at ho
  have bx := Below.one bb1 (.cells #[.slice ra rs.length rc] 37)
  have hx1 := blk_stay HX.out bx
  have z0 := cell_of_obj hx1 (j := 0) (v := .string fn) rfl
  have z1 := cell_of_obj hx1 (j := 1) (v := .slice fpa fps.length fpc) rfl
  have z2 := cell_of_obj hx1 (j := 2) (v := .int .i64 frg) rfl
  have z3 := cell_of_obj hx1 (j := 3) (v := .int .i64 fwd) rfl
  have z4 := cell_of_obj hx1 (j := 4) (v := .slice fca fl.length fcc) rfl
  have HB1 := Hid.mk' (Below.on HB.out bx)
  have HB3 := Hid.mk' (Boxed.new W1 37 (.slice ra rs.length rc))
  have HO1 := Hid.mk' (own_stay ho (Below.one (Below.refl _ W1) (.cells #[.slice ra rs.length rc] 37)))
  have HOB : Hid (∀ k, (Value.slice ra rs.length rc).ownBlock = some k → k < W1.heap.size) := fun k e => (ho.lt k e).2
  have HIR := Hid.mk' hir
  have HRL := Hid.mk' hir.len
  clear hir ho bb1 bx hx1 HX HB HR
  gi_wp2_with fail
  refine ⟨trivial, ?_⟩
  have HSW : Hid (W1.heap.size < (W1.alloc (.cells #[.slice ra rs.length rc] 37)).heap.size) := (by rw [World.size_alloc]; omega : _ < _)
  generalize W1.alloc (.cells #[.slice ra rs.length rc] 37) = WA at *
  refine (callsIn_wide.2 (HED.out _ HB1.out)).mono ?_
  rintro e W2 ⟨B1, B2, rs', rfl, hir', hseq, bb2⟩
  obtain rfl := hir'.one HIR.out
  have HSQ := Hid.mk' hseq
  have HB2 := Hid.mk' (Below.on HB1.out bb2)
  have HB32 := Hid.mk' (boxed_stay HB3.out bb2)
  have HO2 := Hid.mk' (own_stay HO1.out bb2)
  have HBS : Hid (WA.heap.size ≤ W2.heap.size) := bb2.size
  clear z0 z1 z2 z3 z4 hir' hseq bb2 HED HB1 HB3 HO1
  gi_wp2_with fail
  have hlt : W1.heap.size < W2.heap.size := by have := HBS.out; have := HSW.out; omega
  have e3 := HB32.out.cell
  have e31 : ∀ o, (W2.alloc o).cell? ⟨W1.heap.size, 0, none⟩ = some (.slice ra rs'.length rc) := fun o => cell_kept_below e3 (Below.one (Below.refl _ _) o)
  have e32 : ∀ o o1, ((W2.alloc o).alloc o1).cell? ⟨W1.heap.size, 0, none⟩ = some (.slice ra rs'.length rc) := fun o o1 => cell_kept_below e3 (Below.one (Below.one (Below.refl _ _) o) o1)
  have e33 : ∀ o o1 o2, (((W2.alloc o).alloc o1).alloc o2).cell? ⟨W1.heap.size, 0, none⟩ = some (.slice ra rs'.length rc) := fun o o1 o2 => cell_kept_below e3 (Below.one (Below.one (Below.one (Below.refl _ _) o) o1) o2)
  have hrl := HRL.out
  have hmk : ∀ W, _ := fun W => run_mkN W rs'.length (by omega)
  refine wpIn_mono (Q := fun e a' W' => e = Exit.normal ∧ ∃ xf xi gf gi, a' = { tmps := #[.agg #[.string fn, .slice fpa fps.length fpc, .int .i64 frg, .int .i64 fwd, .slice fca fl.length fcc], .pointer (some ⟨w.heap.size, 0, none⟩), .slice none 0 0, .pointer (some ⟨W1.heap.size, 0, none⟩), .func (.func 30) #[] #[.pointer (some ⟨B1, 0, none⟩), .pointer (some ⟨B2, 0, none⟩)], .pointer (some ⟨xf, 0, none⟩), .pointer (some ⟨xi, 0, none⟩), undef, undef, undef, undef, undef, undef, undef, .agg #[.string fn, .slice fpa fps.length fpc, .int .i64 frg, .int .i64 fwd, .slice fca fl.length fcc], .slice ra rs'.length rc, .agg #[.string fn, .slice fpa fps.length fpc, .int .i64 frg, .int .i64 fwd, .slice fca fl.length fcc], .func (.func 30) #[] #[.pointer (some ⟨B1, 0, none⟩), .pointer (some ⟨B2, 0, none⟩)], .slice ra rs'.length rc, .int .i64 (rs'.length : Int), .slice (some ⟨gf, 0, none⟩) rs'.length rs'.length, .slice ra rs'.length rc, .int .i64 (rs'.length : Int), .slice (some ⟨gi, 0, none⟩) rs'.length rs'.length, undef, undef, undef, undef, undef, undef, undef, undef, undef, undef, undef, undef, undef, undef, undef, undef, undef, undef, undef, undef, undef, undef, undef, undef, undef, undef, undef, undef, undef, undef, undef, undef, undef, undef, undef, undef, undef, undef, undef, undef, undef, undef, undef, undef, undef, undef, undef, undef, undef, undef, undef, undef, undef], defers := [] } ∧ W2.heap.size ≤ gf ∧ gf < W'.heap.size ∧ W2.heap.size ≤ gi ∧ gi < W'.heap.size ∧ Below W2.heap.size W2 W' ∧ BI w rs'.length W1.heap.size xf xi gf gi (.slice ra rs'.length rc) rs' (List.replicate rs'.length 0) (List.replicate rs'.length 0) W') ?reg ?rest
  case reg =>
    refine wpIn_wide.2 ?_
    have HR6 : Hid (rs'.length ≤ 1000000) := (by omega : rs'.length ≤ 1000000)
    have HO2W : Hid (Ob w.heap.size rs' (.slice ra rs'.length rc) W2) := own_mono HO2.out (Nat.le_succ _)
    clear hrl
    go_region
    all_goals
      refine ⟨rfl, _, _, _, _, rfl, ?_, ?_, ?_, ?_, (al4 W2 _ _ _ _).2.2.2.2.2, BI.make HR6.out ?_ ?_ ?_ ?_ ?_ ?_ ?_ (al4 W2 _ _ _ _).2.2.2.2.2 HB32.out HO2W.out HB2.out⟩
      all_goals first
        | omega
        | (rw [(al4 W2 _ _ _ _).2.2.2.2.1]; omega)
        | exact (al4 W2 _ _ _ _).1
        | exact (al4 W2 _ _ _ _).2.1
        | exact (al4 W2 _ _ _ _).2.2.1
        | exact (al4 W2 _ _ _ _).2.2.2.1
  case rest =>
    rintro e a' W3 ⟨rfl, xf, xi, gf, gi, rfl, h1, h2, h3, h4, bb3, hbi⟩
    clear e3 e31 e32 e33 hmk HB32 HO2 HB2
    have hs3 := bb3.size
    have hwa := HBS.out
    have HBB := Hid.mk' bb3
    have HLN : Hid ((edg fl rs').length ≤ 3000) := by
      have := edU_len fl rs' rs'.length
      show _ ≤ _
      unfold edg
      omega
    have HME : Hid (∀ pre x, pre ++ [x] <+: edg fl rs' → x.1 < rs'.length ∧ x.2 < rs'.length) := by
      intro pre x hp
      have hm : x ∈ edg fl rs' := hp.subset (by simp)
      obtain ⟨k1, k2⟩ := mem_edg.1 (show (x.1, x.2) ∈ edg fl rs' from hm)
      have hl := (List.getElem?_eq_some_iff.1 k1).1
      have hn := nxt_lt k2
      rcases HIR.out with ⟨_, e⟩ | ⟨_, _, e, _⟩
      · rw [e] at hl; simp at hl
      · omega
    have I0 : BI w rs'.length W1.heap.size xf xi gf gi (.slice ra rs'.length rc) rs' (cnt Prod.fst rs'.length []) (cnt Prod.snd rs'.length []) W3 := by rw [cnt_nil, cnt_nil]; exact hbi
    have hws := I0.b.size
    clear bb3 hbi
    gi_wp2_with fail
    refine range_o (m := 4) (gf := 30) (lb := #[.pointer (some ⟨B1, 0, none⟩), .pointer (some ⟨B2, 0, none⟩)]) rfl (enters_of Try.func30 (by kernel_rfl) rfl) HSQ.out HBB.out (fun _ => rfl) (fun h k => kpE_t h k) (fun W o' _ => kpE_b (by omega) (by omega) W o')
      (fun pre W => BI w rs'.length W1.heap.size xf xi gf gi (.slice ra rs'.length rc) rs' (cnt Prod.fst rs'.length pre) (cnt Prod.snd rs'.length pre) W ∧ Below W2.heap.size W2 W) BkX ((BI.own w _ _ _ _ _ _ _ (fun _ => rs') (fun pre => cnt Prod.fst rs'.length pre) (fun pre => cnt Prod.snd rs'.length pre) hws).and (below_own hs3)) (fun c => BkX.own _ c) ⟨I0, HBB.out⟩ (fun x a' _ => a' = { tmps := #[.agg #[.string fn, .slice fpa fps.length fpc, .int .i64 frg, .int .i64 fwd, .slice fca fl.length fcc], .pointer (some ⟨w.heap.size, 0, none⟩), .slice none 0 0, .pointer (some ⟨W1.heap.size, 0, none⟩), .func (.func 30) #[] #[.pointer (some ⟨B1, 0, none⟩), .pointer (some ⟨B2, 0, none⟩)], .pointer (some ⟨xf, 0, none⟩), .pointer (some ⟨xi, 0, none⟩), .int .i64 (x.1 : Int), .int .i64 (x.2 : Int), undef, undef, undef, undef, undef, .agg #[.string fn, .slice fpa fps.length fpc, .int .i64 frg, .int .i64 fwd, .slice fca fl.length fcc], .slice ra rs'.length rc, .agg #[.string fn, .slice fpa fps.length fpc, .int .i64 frg, .int .i64 fwd, .slice fca fl.length fcc], .func (.func 30) #[] #[.pointer (some ⟨B1, 0, none⟩), .pointer (some ⟨B2, 0, none⟩)], .slice ra rs'.length rc, .int .i64 (rs'.length : Int), .slice (some ⟨gf, 0, none⟩) rs'.length rs'.length, .slice ra rs'.length rc, .int .i64 (rs'.length : Int), .slice (some ⟨gi, 0, none⟩) rs'.length rs'.length, .func (.func 30) #[] #[.pointer (some ⟨B1, 0, none⟩), .pointer (some ⟨B2, 0, none⟩)], .int .i64 (x.1 : Int), .int .i64 (x.2 : Int), undef, undef, undef, undef, undef, undef, undef, undef, undef, undef, undef, undef, undef, undef, undef, undef, undef, undef, undef, undef, undef, undef, undef, undef, undef, undef, undef, undef, undef, undef, undef, undef, undef, undef, undef, undef, undef, undef, undef, undef, undef, undef, undef, undef, undef, undef, undef, undef, undef, undef], defers := [] }) (fun x a' _ W W' row h _ _ => h) ?assign ?body ?done ?stop
    case assign =>
      intro l pre x W hi _
      gi_wp2
      exact ⟨keepsFrom_refl' _ _, kpE_refl _ _ _ _, hi, trivial⟩
    case body =>
      rintro l pre x a' W ⟨hi, hb2⟩ rfl hpx
      obtain ⟨hx1, hx2⟩ := HME.out pre x hpx
      have HB2W := Hid.mk' hb2
      have hle := countP_le fl rs' (fun e => e.1 == x.1) (List.IsPrefix.trans (List.prefix_append _ _) hpx)
      have hle2 := countP_le fl rs' (fun e => e.2 == x.2) (List.IsPrefix.trans (List.prefix_append _ _) hpx)
      have hln := HLN.out
      have HS1 := Hid.mk' (cnt_snoc Prod.fst (n := rs'.length) pre (x := x))
      have HS2 := Hid.mk' (cnt_snoc Prod.snd (n := rs'.length) pre (x := x))
      obtain ⟨g1, e1, d1, k1, k2⟩ := on_at hi.f (cnt_at Prod.fst pre hx1)
      cases e1
      clear k1 k2
      have c1 : pre.countP (fun e => e.1 == x.1) ≤ 3000 := by omega
      have c2 : pre.countP (fun e => e.2 == x.2) ≤ 3000 := by omega
      generalize hcf : pre.countP (fun e => e.1 == x.1) = cf at *
      generalize hci : pre.countP (fun e => e.2 == x.2) = ci at *
      have f1 := World.ownsRow.frozenAt (by have := hi.f; unfold On at this; rw [cnt_len] at this; exact this) x.1
      have b1 := hi.bf.cell
      have P1 := hi.putF x.1 (cf + 1)
      rw [Int.natCast_add, Int.natCast_one] at P1
      obtain ⟨g2, e2, d2, k1, k2⟩ := on_at P1.i (cnt_at Prod.snd pre hx2)
      cases e2
      clear k1 k2
      rw [hci] at d2
      have f2 := World.ownsRow.frozenAt (by have := P1.i; unfold On at this; rw [cnt_len] at this; exact this) x.2
      have b2 := P1.bi.cell
      have HP2 := Hid.mk' (P1.putI x.2 (ci + 1))
      rw [Int.natCast_add, Int.natCast_one] at HP2
      have HI := Hid.mk' hi
      obtain ⟨x1, x2⟩ := x
      simp only at d1 d2 f1 f2 b2 HP2 hx1 hx2 HS1 HS2 ⊢
      have hx1i : (x1 : Int) < (rs'.length : Int) := by omega
      have hx2i : (x2 : Int) < (rs'.length : Int) := by omega
      clear hi P1 hpx hle hle2 hcf hci hb2
      gi_wp2
      refine ⟨((KeepsOthers.setCell W _ _).trans (KeepsOthers.setCell _ _ _)).from _, kpE_t (kpE_set (.inr h1) (by omega) _ _) (kpE_set (.inr h3) (by omega) _ _), ?_⟩
      show BI w rs'.length W1.heap.size xf xi gf gi (.slice ra rs'.length rc) rs' (cnt Prod.fst rs'.length (pre ++ [(x1, x2)])) (cnt Prod.snd rs'.length (pre ++ [(x1, x2)])) _ ∧ _
      rw [HS1.out, HS2.out]
      exact ⟨HP2.out, (HB2W.out.setCell h1 _).setCell h3 _⟩
    case stop =>
      rintro c pre W _ h _
      exact h.elim
    case done =>
      rintro W4 ⟨hi4, hb4⟩ hK4
      have HP : Hid (∀ x : Nat × Nat, inB (edg fl rs') x = ((x.1 + 1 == x.2) && ((edg fl rs').countP (fun e => e.1 == x.1) == 1) && ((edg fl rs').countP (fun e => e.2 == x.2) == 1))) := fun _ => rfl
      have HC1 : Hid (∀ u, u < rs'.length → (cnt Prod.fst rs'.length (edg fl rs'))[u]? = some ((edg fl rs').countP fun e => e.1 == u)) := fun u h => cnt_at Prod.fst _ h
      have HC2 : Hid (∀ u, u < rs'.length → (cnt Prod.snd rs'.length (edg fl rs'))[u]? = some ((edg fl rs').countP fun e => e.2 == u)) := fun u h => cnt_at Prod.snd _ h
      have HL1 := Hid.mk' (cnt_len Prod.fst rs'.length (edg fl rs'))
      have HL2 := Hid.mk' (cnt_len Prod.snd rs'.length (edg fl rs'))
      have HBK : Hid (blk fl rs' = bls (bgn rs' (inB (edg fl rs')) (edg fl rs')) rs'.length) := rfl
      have I4 : BI w rs'.length W1.heap.size xf xi gf gi (.slice ra rs'.length rc) (bgn rs' (inB (edg fl rs')) []) (cnt Prod.fst rs'.length (edg fl rs')) (cnt Prod.snd rs'.length (edg fl rs')) W4 ∧ W4.heap[W3.heap.size]? = some (.deferred (some [])) := by rw [bgn_nil]; exact ⟨hi4, hK4⟩
      have hs4 : W3.heap.size < W4.heap.size := (Array.getElem?_eq_some_iff.1 hK4).1
      have HB4 : Hid (Below W2.heap.size W2 W4) := hb4
      clear hi4 hK4 I0 hb4
      generalize inB (edg fl rs') = pb at *
      generalize cnt Prod.fst rs'.length (edg fl rs') = cF at *
      generalize cnt Prod.snd rs'.length (edg fl rs') = cT at *
      gi_wp2_with fail
      refine range_o (m := 4) (gf := 30) (lb := #[.pointer (some ⟨B1, 0, none⟩), .pointer (some ⟨B2, 0, none⟩)]) rfl (enters_of Try.func30 (by kernel_rfl) rfl) HSQ.out HB4.out (fun _ => rfl) (fun h k => kpE_t h k) (fun W o' _ => kpE_b (by omega) (by omega) W o')
        (fun pre W => BI w rs'.length W1.heap.size xf xi gf gi (.slice ra rs'.length rc) (bgn rs' pb pre) cF cT W ∧ W.heap[W3.heap.size]? = some (.deferred (some []))) BkX ((BI.own w _ _ _ _ _ _ _ (fun pre => bgn rs' pb pre) (fun _ => cF) (fun _ => cT) (by omega)).and (ownFrom_lies hs4)) (fun c => BkX.own _ c) I4 (fun x a' _ => a' = { tmps := #[.agg #[.string fn, .slice fpa fps.length fpc, .int .i64 frg, .int .i64 fwd, .slice fca fl.length fcc], .pointer (some ⟨w.heap.size, 0, none⟩), .slice none 0 0, .pointer (some ⟨W1.heap.size, 0, none⟩), .func (.func 30) #[] #[.pointer (some ⟨B1, 0, none⟩), .pointer (some ⟨B2, 0, none⟩)], .pointer (some ⟨xf, 0, none⟩), .pointer (some ⟨xi, 0, none⟩), undef, undef, .int .i64 (x.1 : Int), .int .i64 (x.2 : Int), undef, undef, undef, .agg #[.string fn, .slice fpa fps.length fpc, .int .i64 frg, .int .i64 fwd, .slice fca fl.length fcc], .slice ra rs'.length rc, .agg #[.string fn, .slice fpa fps.length fpc, .int .i64 frg, .int .i64 fwd, .slice fca fl.length fcc], .func (.func 30) #[] #[.pointer (some ⟨B1, 0, none⟩), .pointer (some ⟨B2, 0, none⟩)], .slice ra rs'.length rc, .int .i64 (rs'.length : Int), .slice (some ⟨gf, 0, none⟩) rs'.length rs'.length, .slice ra rs'.length rc, .int .i64 (rs'.length : Int), .slice (some ⟨gi, 0, none⟩) rs'.length rs'.length, .func (.func 30) #[] #[.pointer (some ⟨B1, 0, none⟩), .pointer (some ⟨B2, 0, none⟩)], undef, undef, undef, undef, undef, undef, undef, undef, undef, undef, undef, undef, undef, undef, .func (.func 30) #[] #[.pointer (some ⟨B1, 0, none⟩), .pointer (some ⟨B2, 0, none⟩)], .int .i64 (x.1 : Int), .int .i64 (x.2 : Int), undef, undef, undef, undef, undef, undef, undef, undef, undef, undef, undef, undef, undef, undef, undef, undef, undef, undef, undef, undef, undef, undef, undef, undef, undef, undef, undef, undef, undef, undef, undef, undef, undef, undef, undef], defers := [] }) (fun x a' _ W W' row h _ _ => h) ?assign ?body ?done ?stop
      case assign =>
        intro l pre x W hi _
        gi_wp2
        exact ⟨keepsFrom_refl' _ _, kpE_refl _ _ _ _, hi, trivial⟩
      case body =>
        rintro l pre x a' W hi rfl hpx
        obtain ⟨hi, hdd⟩ := hi
        obtain ⟨hx1, hx2⟩ := HME.out pre x hpx
        obtain ⟨g1, e1, d1, k1, k2⟩ := on_at hi.f (HC1.out _ hx1)
        cases e1
        clear k1 k2
        obtain ⟨g2, e2, d2, k1, k2⟩ := on_at hi.i (HC2.out _ hx2)
        cases e2
        clear k1 k2
        obtain ⟨gb, rfl, d3, k1, k2⟩ := ob_at hi.r (bgn_at rs' pb pre hx2)
        clear k1 k2
        have f3 := World.ownsRow.frozenAt (by have := hi.r; unfold Ob at this; rw [bgn_len] at this; exact this) x.2
        have b1 := hi.bf.cell
        have b2 := hi.bi.cell
        have b3 := hi.b3.cell
        have hgb := HOB.out gb rfl
        have hsw := HSW.out
        have HY := Hid.mk' (bgn_yes (rs := rs') (p := pb) (pre := pre) (x := x))
        have HNO := Hid.mk' (bgn_no (rs := rs') (p := pb) (pre := pre) (x := x))
        have HPX := Hid.mk' (HP.out x)
        have HPB := Hid.mk' (hi.putB x.2 false)
        have HI := Hid.mk' hi
        have HDD := Hid.mk' hdd
        obtain ⟨x1, x2⟩ := x
        simp only at d1 d2 d3 f3 HPB hx1 hx2 HPX HY HNO ⊢
        have hx1i : (x1 : Int) < (rs'.length : Int) := by omega
        have hx2i : (x2 : Int) < (rs'.length : Int) := by omega
        have hrl := HRL.out
        generalize (rs'[x2]? == some true && !pre.any fun e => e.2 == x2 && pb e) = ob at *
        generalize (edg fl rs').countP (fun e => e.1 == x1) = cf at *
        generalize (edg fl rs').countP (fun e => e.2 == x2) = ci at *
        clear hi hdd hpx
        by_cases q1 : x1 + 1 = x2
        · have q1i : ((x1 : Int) == (x2 : Int) - 1) = true := by rw [beq_iff_eq]; omega
          by_cases q2 : cf = 1
          · have q2i : ((cf : Int) == 1) = true := by rw [beq_iff_eq]; omega
            by_cases q3 : ci = 1
            · have q3i : ((ci : Int) == 1) = true := by rw [beq_iff_eq]; omega
              have HPT : Hid (pb (x1, x2) = true) := (by rw [HPX.out]; simp [q1, q2, q3] : _ = _)
              clear q1 q2 q3
              gi_wp2
              refine ⟨(KeepsOthers.setCell W _ _).from _, kpE_set (.inl (by omega)) (by omega) _ _, ?_⟩
              show BI w rs'.length W1.heap.size xf xi gf gi (.slice (some ⟨gb, 0, none⟩) rs'.length rc) (bgn rs' pb (pre ++ [(x1, x2)])) cF cT _ ∧ _
              rw [HY.out HPT.out]
              exact ⟨HPB.out, (KeepsOthers.setCell W _ _).same _ _ HDD.out rfl⟩
            · have q3i : ((ci : Int) == 1) = false := beq_no (by omega)
              have HPT : Hid (pb (x1, x2) = false) := (by rw [HPX.out]; simp [q3] : _ = _)
              clear q1 q2 q3
              gi_wp2
              refine ⟨keepsFrom_refl' _ _, kpE_refl _ _ _ _, ?_⟩
              show BI w rs'.length W1.heap.size xf xi gf gi (.slice (some ⟨gb, 0, none⟩) rs'.length rc) (bgn rs' pb (pre ++ [(x1, x2)])) cF cT _ ∧ _
              rw [HNO.out HPT.out]
              exact ⟨HI.out, HDD.out⟩
          · have q2i : ((cf : Int) == 1) = false := beq_no (by omega)
            have HPT : Hid (pb (x1, x2) = false) := (by rw [HPX.out]; simp [q2] : _ = _)
            clear q1 q2
            gi_wp2
            refine ⟨keepsFrom_refl' _ _, kpE_refl _ _ _ _, ?_⟩
            show BI w rs'.length W1.heap.size xf xi gf gi (.slice (some ⟨gb, 0, none⟩) rs'.length rc) (bgn rs' pb (pre ++ [(x1, x2)])) cF cT _ ∧ _
            rw [HNO.out HPT.out]
            exact ⟨HI.out, HDD.out⟩
        · have q1i : ((x1 : Int) == (x2 : Int) - 1) = false := beq_no (by omega)
          have HPT : Hid (pb (x1, x2) = false) := (by rw [HPX.out]; simp [q1] : _ = _)
          clear q1
          gi_wp2
          refine ⟨keepsFrom_refl' _ _, kpE_refl _ _ _ _, ?_⟩
          show BI w rs'.length W1.heap.size xf xi gf gi (.slice (some ⟨gb, 0, none⟩) rs'.length rc) (bgn rs' pb (pre ++ [(x1, x2)])) cF cT _ ∧ _
          rw [HNO.out HPT.out]
          exact ⟨HI.out, HDD.out⟩
      case stop =>
        rintro c pre W _ h _
        exact h.elim
      case done =>
        rintro W5 ⟨hi5, hK3⟩ hK5
        have b3 := hi5.b3.cell
        have HI := Hid.mk' hi5
        have HK3 := Hid.mk' hK3
        have HK5 := Hid.mk' hK5
        have hs5 : W4.heap.size < W5.heap.size := (Array.getElem?_eq_some_iff.1 hK5).1
        have HBL := Hid.mk' (bgn_len rs' pb (edg fl rs'))
        have HR5 := Hid.mk' hi5.r
        have HBW5 := Hid.mk' hi5.b
        clear hi5 hK3 hK5 HSQ HC1 HC2 HL1 HL2 HP HB4 HBB I4 HI
        generalize bgn rs' pb (edg fl rs') = bs at *
        gi_wp2_with fail
        refine wpIn_wide.2 ?_
        have hrl := HRL.out
        go_loopw [11, 65] (fun t11 t65 wr => ∃ (k : Nat) (v : Value), t11 = v ∧ t65 = .int .i64 (k : Int) ∧ k ≤ rs'.length ∧ On W5.heap.size (bls bs k) v wr ∧ Below W5.heap.size W5 wr) (fun _ t65 _ => rs'.length - (intOf t65).toNat)
        case atStart => exact ⟨0, _, rfl, rfl, Nat.zero_le _, on_nil _ _, Below.refl _ _⟩
        case round =>
          obtain ⟨k, v, rfl, rfl, hk, hon, hbr⟩ := hrel
          obtain ⟨av, cv, rfl⟩ := gown_form hon
          have HON := Hid.mk' hon
          have HBR := Hid.mk' hbr
          have hbl := bls_len bs k
          clear hon hbr
          by_cases hkl : k < rs'.length
          · obtain ⟨bk, hbk⟩ : ∃ b, bs[k]? = some b := ⟨_, List.getElem?_eq_getElem (by rw [HBL.out]; exact hkl)⟩
            obtain ⟨gb, rfl, d0, k1, k2⟩ := ob_at (own_stay HR5.out HBR.out) hbk
            clear k1 k2
            have hkli : (k : Int) < (rs'.length : Int) := by omega
            have HBK2 := Hid.mk' hbk
            clear hbk
            cases bk
            · have HBN := Hid.mk' (bls_no HBK2.out)
              go_wp2_with fail
              go_roundw
              case rel => exact ⟨k + 1, _, rfl, by go_num, by omega, by rw [HBN.out]; exact HON.out, HBR.out⟩
              case measure => simp [intOf]; omega
            · have HBY := Hid.mk' (bls_yes HBK2.out)
              have HAP := Hid.mk' (on_app HON.out HBR.out.size (by omega) k 27)
              go_wp2_with (at_builtin; refine wpl_app rfl _ _ 27 27 _ _ rfl rfl rfl HAP.out ?_; rintro v3 W7 ⟨on3, gr3⟩)
              obtain ⟨a3, c3, rfl⟩ := gown_form on3
              go_roundw
              case rel => exact ⟨k + 1, _, rfl, by go_num, by omega, by rw [HBY.out]; exact on3, HBR.out.trans (own_keeps HON.out HBR.out.size gr3)⟩
              case measure => simp [intOf]; omega
          · have hke : k = rs'.length := by omega
            go_wp2_with fail
            gi_wp2_with fail
            refine leaves_any (N := W3.heap.size) (fun W' => On W5.heap.size (bls bs k) (.slice av (bls bs k).length cv) W' ∧ Below w.heap.size w W') ?_ ?_ [W4.heap.size, W3.heap.size] wr (by simp; omega) ?_ ⟨HON.out, HBW5.out.trans (HBR.out.mono HBW5.out.size)⟩
            · rintro W d hd hK ⟨h1, h2⟩
              have hg := grownBy_putObj' W d (.deferred none)
              exact ⟨own_grown h1 hg (fun r e => by cases e; exact ⟨_, hK, rfl⟩), h2.trans (belowK_b (w := w) (Nat.le_refl _) _ _ _ _ (by omega) hK rfl rfl)⟩
            · rintro W' ⟨h1, h2⟩
              refine ⟨.slice av (bls bs k).length cv, by simp [results, Try.results19, go_sem], _, rs', rfl, HIR.out, ?_, h2⟩
              rw [HBK.out, ← hke]
              exact own_mono h1 (by omega)
            · intro d hd
              simp only [List.mem_cons, List.not_mem_nil, or_false] at hd
              rcases hd with rfl | rfl
              · exact ⟨by omega, (HBR.out.block _ hs5).trans HK5.out⟩
              · exact ⟨Nat.le_refl _, (HBR.out.block _ (by omega)).trans HK3.out⟩
theorem blocks_any (f : Fn) (w : World) (hi : Iss w f.ca f.code) (hc : f.code.length ≤ f.cc) : Calls Try.prog 19 #[f.val] w (BlP f.code w) := callsIn_wide.1 (blocks_in f w hi hc)
end Go.Proofs.Ytoabnkidfapniaa
