/- ref14.Lists, walked. -/
import Derived.Test.YtgiokognngllcaaDoorWh
import Derived.Test.YtgiokognngllcaaDoorWd
import Derived.Test.YtgiokognngllcaaDoorGgak
namespace Go.Proofs.YtgiokognngllcaaDoor
open Go.RowKit Go.Sort

/-- Edges in memory. -/
def EdR (W : World) (a : Option Addr) (es : List (Nat × Nat)) : Prop := ∀ (k : Nat) (x : Nat × Nat), es[k]? = some x → ∃ b o, a = some ⟨b, o, none⟩ ∧ W.cell? ⟨b, o + k * 2, none⟩ = some (.int .i64 (x.1 : Int)) ∧ W.cell? ⟨b, o + k * 2 + 1, none⟩ = some (.int .i64 (x.2 : Int))
theorem oe_edr {N n c : Nat} {a : Option Addr} {es : List (Nat × Nat)} {W : World} (h : Oe N es (.slice a n c) W) : EdR W a es := fun k x hx => by
  obtain ⟨a', c', e⟩ := gown_form h
  injection e with e1 e2 e3
  subst e2
  rcases h.2 with ⟨_, h0⟩ | ⟨g, cap, cur, e, _⟩
  · have h1 := h.1
    have := (List.getElem?_eq_some_iff.1 hx).1
    omega
  · injection e with e1 _ _
    subst e1
    have hc : ∀ j y, (edC x)[j]? = some y → W.cell? ⟨g, k * 2 + j, none⟩ = some y := fun j y hj => by
      have := h.cells (g := g) rfl _ _ (flat_at (f := edC) (k := 2) (fun _ => rfl) es k j x y hx hj)
      rw [Addr.add_lit, Nat.zero_add] at this
      exact this
    exact ⟨g, 0, rfl, by rw [Nat.zero_add]; exact hc 0 _ rfl, by rw [Nat.zero_add]; exact hc 1 _ rfl⟩
theorem intL_le (es : List (Nat × Nat)) (v : Nat) : (intL es v).length ≤ es.length := by unfold intL; rw [List.length_map]; exact List.length_filter_le _ _
theorem outL_le (es : List (Nat × Nat)) (v : Nat) : (outL es v).length ≤ es.length := by unfold outL; rw [List.length_map]; exact List.length_filter_le _ _
set_option maxRecDepth 100000 in
set_option maxHeartbeats 4000000 in
theorem lists_in (es : List (Nat × Nat)) (n : Nat) (ea : Option Addr) (ec : Nat) (w : World) (hn : n ≤ 1024) (hl : es.length ≤ 3000) (he : EdR w ea es) (hlt : ∀ x ∈ es, x.1 < n ∧ x.2 < n) :
    Calls Tryd.prog 18 #[.int .i64 (n : Int), .slice ea es.length ec, .bool true] w (LiP n (intL es) w) := by
  have HEE := Hid.mk' he
  have HXL := Hid.mk' hlt
  have hmk : ∀ W, _ := fun W => run_mkR W n (by omega)
  have HLG0 : Hid (LG w n w.heap.size w.heap.size (intL []) (List.replicate n (.slice none 0 0)) (w.alloc (.cells (mkR n) 38))) := LG.start (fun _ => rfl) (heap_alloc_new w _) (Below.one (Below.refl _ w) _) (by simp)
  clear he hlt
  go_enter Tryd.func18, Tryd.ntmps18
  go_wp2_with fail
  go_loopw [8] (fun t8 wr => ∃ (k : Nat) (vs : List Value), k ≤ es.length ∧ t8 = .int .i64 (k : Int) ∧ LG w n w.heap.size w.heap.size (intL (es.take k)) vs wr) (fun t8 _ => es.length - (intOf t8).toNat)
  case atStart => exact ⟨0, _, Nat.zero_le _, rfl, HLG0.out⟩
  case round =>
    clear HLG0 hmk
    obtain ⟨k, vs, hk, rfl, hlg⟩ := hrel
    by_cases hlt : k < es.length
    · obtain ⟨⟨u, v⟩, hx⟩ : ∃ x, es[k]? = some x := ⟨_, List.getElem?_eq_getElem hlt⟩
      obtain ⟨b, o, rfl, h0, h1⟩ := HEE.out k _ hx
      have HC0 := Hid.mk' h0
      have HC1 := Hid.mk' h1
      have c0 : wr.cell? ⟨b, o + k * 2, none⟩ = some (.int .i64 (u : Int)) := cell_kept_below h0 hlg.b
      have c1 : wr.cell? ⟨b, o + k * 2 + 1, none⟩ = some (.int .i64 (v : Int)) := cell_kept_below h1 hlg.b
      have HTK : Hid (es.take (k + 1) = es.take k ++ [(u, v)]) := by
        show _ = _
        rw [List.take_succ_eq_append_getElem hlt, (List.getElem?_eq_some_iff.1 hx).2]
      have hxl := HXL.out _ (List.mem_of_getElem? hx)
      have HR6 : Hid (v < n) := hxl.2
      have hui : (u : Int) < (n : Int) := by have := hxl.1; omega
      have hvi : (v : Int) < (n : Int) := by have := hxl.2; omega
      have hki : (k : Int) < (es.length : Int) := by omega
      have HLE : Hid (∀ j, (intL (es.take k) j).length ≤ 3000) := fun j => Nat.le_trans (intL_le _ j) (by rw [List.length_take]; omega)
      have HLG := Hid.mk' hlg
      clear hx h0 h1 hxl hlg
      obtain ⟨aq, cq, hq⟩ := gown_form (HLG.out.rows v HR6.out)
      have hrow := cell_of_obj HLG.out.f (j := v) (v := vs.getD v undef) (by rw [List.getElem?_toArray]; exact vs_at (by rw [HLG.out.len]; exact HR6.out))
      rw [hq] at hrow
      have HOA := Hid.mk' (on_app_at (W := wr.drew) (HLG.out.drew.rows v HR6.out) HLG.out.drew.sz (by have := HLE.out v; omega) u 38)
      rw [hq] at HOA
      have HS0 : Hid (wr.drew.cell? ⟨b, o + k * 2, none⟩ = some (.int .i64 (u : Int)) ∧ wr.drew.cell? ⟨b, o + k * 2 + 1, none⟩ = some (.int .i64 (v : Int)) ∧ wr.drew.cell? ⟨w.heap.size, v, none⟩ = some (.slice aq (intL (es.take k) v).length cq)) := ⟨c0, c1, hrow⟩
      have HS1 : Hid (∀ W3, wr.drew.grownBy W3 (Value.slice aq (intL (es.take k) v).length cq).ownBlock → W3.cell? ⟨b, o + k * 2, none⟩ = some (.int .i64 (u : Int)) ∧ W3.cell? ⟨b, o + k * 2 + 1, none⟩ = some (.int .i64 (v : Int)) ∧ W3.cell? ⟨w.heap.size, v, none⟩ = some (.slice aq (intL (es.take k) v).length cq) ∧ W3.frozen? ⟨w.heap.size, v, none⟩ = false) := fun W3 hg => by
        rw [← hq] at hg
        have hb3 : Below w.heap.size w W3 := HLG.out.drew.b.grown hg HLG.out.drew.b.size (fun j e => own_base (HLG.out.drew.rows v HR6.out) j e)
        have hne := row_ne HLG.out.drew.f (HLG.out.drew.rows v HR6.out)
        have hf := (hg.block w.heap.size (Array.getElem?_eq_some_iff.1 HLG.out.drew.f).1 (Ne.symm hne)).trans HLG.out.drew.f
        refine ⟨cell_kept_below HC0.out hb3, cell_kept_below HC1.out hb3, ?_, Lib.frozen_of_heap hf _⟩
        rw [← hq]
        exact cell_of_obj hf (by rw [List.getElem?_toArray]; exact vs_at (by rw [HLG.out.len]; exact HR6.out))
      have HNX : Hid (∀ v' W', On w.heap.size (intL (es.take k) v ++ [u]) v' W' → wr.drew.grownBy W' (Value.slice aq (intL (es.take k) v).length cq).ownBlock → (v'.ownBlock = (Value.slice aq (intL (es.take k) v).length cq).ownBlock ∨ v'.ownBlock = some (wr.drew.heap.size + 1)) → LG w n w.heap.size w.heap.size (intL (es.take (k + 1))) (vs.set v v') (W'.setCell ⟨w.heap.size, v, none⟩ v')) := fun v' W' ho hg hv => by
        rw [← hq] at hg hv
        exact HLG.out.drew.next HR6.out (Nat.le_refl _) (Nat.le_refl _) ho hg hv (by rw [HTK.out, intL_snoc, if_pos rfl]) (fun j hj => by rw [HTK.out, intL_snoc, if_neg (Ne.symm hj)])
      clear hq hrow c0 c1 HLG HTK HC0 HC1
      go_upto_region 6 with fail
      refine wp_region_K (fun w' => w'.cell? ⟨b, o + k * 2, none⟩ = some (.int .i64 (u : Int)) ∧ w'.cell? ⟨b, o + k * 2 + 1, none⟩ = some (.int .i64 (v : Int)) ∧ w'.cell? ⟨w.heap.size, v, none⟩ = some (.slice aq (intL (es.take k) v).length cq)) 22 (by kernel_rfl) ?_
      simp only [List.size_toArray, List.length_cons, List.length_nil, Nat.reduceAdd]
      refine wpAnyK_takeL (i := 0) (v := ?tv6x0) rfl (by kernel_rfl) (by kernel_rfl) (by kernel_rfl) (by kernel_rfl) (fun _ _ _ h => h) (by rfl) ?ty6x0 HS0.out ?tr6x0
      case ty6x0 => (intro w' hSw; obtain ⟨hs1, hs2, hs3⟩ := hSw; go_simp; try with_reducible rfl)
      simp only [Act.put, List.setIfInBounds_toArray, List.set_cons_zero, List.set_cons_succ]
      refine wpAnyK_takeL (i := 1) (v := ?tv6x1) rfl (by kernel_rfl) (by kernel_rfl) (by kernel_rfl) (by kernel_rfl) (fun _ _ _ h => h) (by rfl) ?ty6x1 HS0.out ?tr6x1
      case ty6x1 => (intro w' hSw; obtain ⟨hs1, hs2, hs3⟩ := hSw; go_simp; try with_reducible rfl)
      simp only [Act.put, List.setIfInBounds_toArray, List.set_cons_zero, List.set_cons_succ]
      refine wpAnyK_takeL (i := 2) (v := ?tv6x2) rfl (by kernel_rfl) (by kernel_rfl) (by kernel_rfl) (by kernel_rfl) (fun _ _ _ h => h) (by rfl) ?ty6x2 HS0.out ?tr6x2
      case ty6x2 => (intro w' hSw; obtain ⟨hs1, hs2, hs3⟩ := hSw; go_simp; try with_reducible rfl)
      simp only [Act.put, List.setIfInBounds_toArray, List.set_cons_zero, List.set_cons_succ]
      refine wpAnyK_takeL (i := 3) (v := ?tv6x3) rfl (by kernel_rfl) (by kernel_rfl) (by kernel_rfl) (by kernel_rfl) (fun _ _ _ h => h) (by rfl) ?ty6x3 HS0.out ?tr6x3
      case ty6x3 => (intro w' hSw; obtain ⟨hs1, hs2, hs3⟩ := hSw; go_simp; try with_reducible rfl)
      simp only [Act.put, List.setIfInBounds_toArray, List.set_cons_zero, List.set_cons_succ]
      refine wpAnyK_takeL (i := 4) (v := ?tv6x4) rfl (by kernel_rfl) (by kernel_rfl) (by kernel_rfl) (by kernel_rfl) (fun _ _ _ h => h) (by rfl) ?ty6x4 HS0.out ?tr6x4
      case ty6x4 => (intro w' hSw; obtain ⟨hs1, hs2, hs3⟩ := hSw; go_simp; try with_reducible rfl)
      simp only [Act.put, List.setIfInBounds_toArray, List.set_cons_zero, List.set_cons_succ]
      refine wpAnyK_takeL (i := 5) (v := ?tv6x5) rfl (by kernel_rfl) (by kernel_rfl) (by kernel_rfl) (by kernel_rfl) (fun _ _ _ h => h) (by rfl) ?ty6x5 HS0.out ?tr6x5
      case ty6x5 => (intro w' hSw; obtain ⟨hs1, hs2, hs3⟩ := hSw; go_simp; try with_reducible rfl)
      simp only [Act.put, List.setIfInBounds_toArray, List.set_cons_zero, List.set_cons_succ]
      refine wpAnyK_takeL (i := 6) (v := ?tv6x6) rfl (by kernel_rfl) (by kernel_rfl) (by kernel_rfl) (by kernel_rfl) (fun _ _ _ h => h) (by rfl) ?ty6x6 HS0.out ?tr6x6
      case ty6x6 => (intro w' hSw; obtain ⟨hs1, hs2, hs3⟩ := hSw; go_simp; try with_reducible rfl)
      simp only [Act.put, List.setIfInBounds_toArray, List.set_cons_zero, List.set_cons_succ]
      refine wpAnyK_takeL (i := 7) (v := ?tv6x7) rfl (by kernel_rfl) (by kernel_rfl) (by kernel_rfl) (by kernel_rfl) (fun _ _ _ h => h) (by rfl) ?ty6x7 HS0.out ?tr6x7
      case ty6x7 => (intro w' hSw; obtain ⟨hs1, hs2, hs3⟩ := hSw; go_simp; try with_reducible rfl)
      simp only [Act.put, List.setIfInBounds_toArray, List.set_cons_zero, List.set_cons_succ]
      refine wpAnyK_takeL (i := 8) (v := ?tv6x8) rfl (by kernel_rfl) (by kernel_rfl) (by kernel_rfl) (by kernel_rfl) (fun _ _ _ h => h) (by rfl) ?ty6x8 HS0.out ?tr6x8
      case ty6x8 => (intro w' hSw; obtain ⟨hs1, hs2, hs3⟩ := hSw; go_simp; try with_reducible rfl)
      simp only [Act.put, List.setIfInBounds_toArray, List.set_cons_zero, List.set_cons_succ]
      refine wpAnyK_takeL (i := 9) (v := ?tv6x9) rfl (by kernel_rfl) (by kernel_rfl) (by kernel_rfl) (by kernel_rfl) (fun _ _ _ h => h) (by rfl) ?ty6x9 HS0.out ?tr6x9
      case ty6x9 => (intro w' hSw; obtain ⟨hs1, hs2, hs3⟩ := hSw; go_simp; try with_reducible rfl)
      simp only [Act.put, List.setIfInBounds_toArray, List.set_cons_zero, List.set_cons_succ]
      refine wpAnyK_takeL (i := 10) (v := ?tv6x10) rfl (by kernel_rfl) (by kernel_rfl) (by kernel_rfl) (by kernel_rfl) (fun _ _ _ h => h) (by rfl) ?ty6x10 HS0.out ?tr6x10
      case ty6x10 => (intro w' hSw; obtain ⟨hs1, hs2, hs3⟩ := hSw; go_simp; try with_reducible rfl)
      simp only [Act.put, List.setIfInBounds_toArray, List.set_cons_zero, List.set_cons_succ]
      refine wpAnyK_takeL (i := 11) (v := ?tv6x11) rfl (by kernel_rfl) (by kernel_rfl) (by kernel_rfl) (by kernel_rfl) (fun _ _ _ h => h) (by rfl) ?ty6x11 HS0.out ?tr6x11
      case ty6x11 => (intro w' hSw; obtain ⟨hs1, hs2, hs3⟩ := hSw; go_simp; try with_reducible rfl)
      simp only [Act.put, List.setIfInBounds_toArray, List.set_cons_zero, List.set_cons_succ]
      refine wpAnyK_takeL (i := 12) (v := ?tv6x12) rfl (by kernel_rfl) (by kernel_rfl) (by kernel_rfl) (by kernel_rfl) (fun _ _ _ h => h) (by rfl) ?ty6x12 HS0.out ?tr6x12
      case ty6x12 => (intro w' hSw; obtain ⟨hs1, hs2, hs3⟩ := hSw; go_simp; try with_reducible rfl)
      simp only [Act.put, List.setIfInBounds_toArray, List.set_cons_zero, List.set_cons_succ]
      refine wpAnyK_takeL (i := 13) (v := ?tv6x13) rfl (by kernel_rfl) (by kernel_rfl) (by kernel_rfl) (by kernel_rfl) (fun _ _ _ h => h) (by rfl) ?ty6x13 HS0.out ?tr6x13
      case ty6x13 => (intro w' hSw; obtain ⟨hs1, hs2, hs3⟩ := hSw; go_simp; try with_reducible rfl)
      simp only [Act.put, List.setIfInBounds_toArray, List.set_cons_zero, List.set_cons_succ]
      refine wpAnyK_takeL (i := 14) (v := ?tv6x14) rfl (by kernel_rfl) (by kernel_rfl) (by kernel_rfl) (by kernel_rfl) (fun _ _ _ h => h) (by rfl) ?ty6x14 HS0.out ?tr6x14
      case ty6x14 => (intro w' hSw; obtain ⟨hs1, hs2, hs3⟩ := hSw; go_simp; try with_reducible rfl)
      simp only [Act.put, List.setIfInBounds_toArray, List.set_cons_zero, List.set_cons_succ]
      refine wpAnyK_takeL (i := 15) (v := ?tv6x15) rfl (by kernel_rfl) (by kernel_rfl) (by kernel_rfl) (by kernel_rfl) (fun _ _ _ h => h) (by rfl) ?ty6x15 HS0.out ?tr6x15
      case ty6x15 => (intro w' hSw; obtain ⟨hs1, hs2, hs3⟩ := hSw; go_simp; try with_reducible rfl)
      simp only [Act.put, List.setIfInBounds_toArray, List.set_cons_zero, List.set_cons_succ]
      refine wpAnyK_takeL (i := 16) (v := ?tv6x16) rfl (by kernel_rfl) (by kernel_rfl) (by kernel_rfl) (by kernel_rfl) (fun _ _ _ h => h) (by rfl) ?ty6x16 HS0.out ?tr6x16
      case ty6x16 => (intro w' hSw; obtain ⟨hs1, hs2, hs3⟩ := hSw; go_simp; try with_reducible rfl)
      simp only [Act.put, List.setIfInBounds_toArray, List.set_cons_zero, List.set_cons_succ]
      refine wpAnyK_takeL (i := 17) (v := ?tv6x17) rfl (by kernel_rfl) (by kernel_rfl) (by kernel_rfl) (by kernel_rfl) (fun _ _ _ h => h) (by rfl) ?ty6x17 HS0.out ?tr6x17
      case ty6x17 => (intro w' hSw; obtain ⟨hs1, hs2, hs3⟩ := hSw; go_simp; try with_reducible rfl)
      simp only [Act.put, List.setIfInBounds_toArray, List.set_cons_zero, List.set_cons_succ]
      refine wpAnyK_takeL (i := 18) (v := ?tv6x18) rfl (by kernel_rfl) (by kernel_rfl) (by kernel_rfl) (by kernel_rfl) (fun _ _ _ h => h) (by rfl) ?ty6x18 HS0.out ?tr6x18
      case ty6x18 => (intro w' hSw; obtain ⟨hs1, hs2, hs3⟩ := hSw; go_simp; try with_reducible rfl)
      simp only [Act.put, List.setIfInBounds_toArray, List.set_cons_zero, List.set_cons_succ]
      refine wpAnyK_one (i := 19) (by kernel_rfl) rfl (fun K hK => ?_)
      go_simp
      refine hK.out _ _ (fun _ => by obtain ⟨s1, s2, s3, _⟩ := HS1.out _ (World.grownBy_alloc _ _ _); exact ⟨s1, s2, s3⟩) ?_
      clear hK K
      refine wpAnyK_one (i := 20) (by kernel_rfl) rfl (fun K hK => ?_)
      refine step_app rfl _ _ 38 38 _ _ rfl rfl rfl HOA.out ?_
      rintro v3 W3 ⟨on3, gr3, ow3⟩
      obtain ⟨a3, c3, rfl⟩ := gown_form on3
      obtain ⟨s1, s2, s3, s4⟩ := HS1.out W3 gr3
      refine hK.out _ _ (fun _ => ⟨s1, s2, s3⟩) ?_
      clear hK K
      refine wpAnyK_one (i := 21) (by kernel_rfl) rfl (fun K hK => ?_)
      go_simp
      refine hK.out _ _ (fun _ => ⟨s1, s2, s3⟩) ?_
      clear hK K
      refine wpAnyK_one (i := 22) (by kernel_rfl) rfl (fun K hK => ?_)
      go_simp
      refine hK.out _ _ (fun h => absurd rfl h) ?_
      clear hK K
      refine wpAnyK_done (by kernel_rfl) ?_ _
      have hl5 := HNX.out _ _ on3 gr3 ow3
      rw [show (intL (es.take k) v ++ [u]).length = (intL (es.take k) v).length + 1 by simp] at hl5
      have HL5 := Hid.mk' hl5
      clear hl5 HS0 HOA HS1 HNX on3 gr3 ow3 s1 s2 s3 s4
      go_wp2_with fail
      go_roundw
      case rel => exact ⟨k + 1, _, hlt, by go_num, HL5.out⟩
      case measure => simp [intOf]; omega
    · have ht : es.take k = es := List.take_of_length_le (by omega)
      rw [ht] at hlg
      have HLG := Hid.mk' hlg
      clear ht hlg
      go_wp2_with fail
      go_ret
      exact ⟨w.heap.size, vs, rfl, HLG.out, Nat.le_refl _⟩
set_option maxRecDepth 100000 in
set_option maxHeartbeats 4000000 in
theorem lists_out (es : List (Nat × Nat)) (n : Nat) (ea : Option Addr) (ec : Nat) (w : World) (hn : n ≤ 1024) (hl : es.length ≤ 3000) (he : EdR w ea es) (hlt : ∀ x ∈ es, x.1 < n ∧ x.2 < n) :
    Calls Tryd.prog 18 #[.int .i64 (n : Int), .slice ea es.length ec, .bool false] w (LiP n (outL es) w) := by
  have HEE := Hid.mk' he
  have HXL := Hid.mk' hlt
  have hmk : ∀ W, _ := fun W => run_mkR W n (by omega)
  have HLG0 : Hid (LG w n w.heap.size w.heap.size (outL []) (List.replicate n (.slice none 0 0)) (w.alloc (.cells (mkR n) 38))) := LG.start (fun _ => rfl) (heap_alloc_new w _) (Below.one (Below.refl _ w) _) (by simp)
  clear he hlt
  go_enter Tryd.func18, Tryd.ntmps18
  go_wp2_with fail
  go_loopw [8] (fun t8 wr => ∃ (k : Nat) (vs : List Value), k ≤ es.length ∧ t8 = .int .i64 (k : Int) ∧ LG w n w.heap.size w.heap.size (outL (es.take k)) vs wr) (fun t8 _ => es.length - (intOf t8).toNat)
  case atStart => exact ⟨0, _, Nat.zero_le _, rfl, HLG0.out⟩
  case round =>
    clear HLG0 hmk
    obtain ⟨k, vs, hk, rfl, hlg⟩ := hrel
    by_cases hlt : k < es.length
    · obtain ⟨⟨u, v⟩, hx⟩ : ∃ x, es[k]? = some x := ⟨_, List.getElem?_eq_getElem hlt⟩
      obtain ⟨b, o, rfl, h0, h1⟩ := HEE.out k _ hx
      have HC0 := Hid.mk' h0
      have HC1 := Hid.mk' h1
      have c0 : wr.cell? ⟨b, o + k * 2, none⟩ = some (.int .i64 (u : Int)) := cell_kept_below h0 hlg.b
      have c1 : wr.cell? ⟨b, o + k * 2 + 1, none⟩ = some (.int .i64 (v : Int)) := cell_kept_below h1 hlg.b
      have HTK : Hid (es.take (k + 1) = es.take k ++ [(u, v)]) := by
        show _ = _
        rw [List.take_succ_eq_append_getElem hlt, (List.getElem?_eq_some_iff.1 hx).2]
      have hxl := HXL.out _ (List.mem_of_getElem? hx)
      have HR7 : Hid (u < n) := hxl.1
      have hui : (u : Int) < (n : Int) := by have := hxl.1; omega
      have hvi : (v : Int) < (n : Int) := by have := hxl.2; omega
      have hki : (k : Int) < (es.length : Int) := by omega
      have HLE : Hid (∀ j, (outL (es.take k) j).length ≤ 3000) := fun j => Nat.le_trans (outL_le _ j) (by rw [List.length_take]; omega)
      have HLG := Hid.mk' hlg
      clear hx h0 h1 hxl hlg
      obtain ⟨aq, cq, hq⟩ := gown_form (HLG.out.rows u HR7.out)
      have hrow := cell_of_obj HLG.out.f (j := u) (v := vs.getD u undef) (by rw [List.getElem?_toArray]; exact vs_at (by rw [HLG.out.len]; exact HR7.out))
      rw [hq] at hrow
      have HOA := Hid.mk' (on_app_at (W := wr.drew) (HLG.out.drew.rows u HR7.out) HLG.out.drew.sz (by have := HLE.out u; omega) v 38)
      rw [hq] at HOA
      have HS0 : Hid (wr.drew.cell? ⟨b, o + k * 2, none⟩ = some (.int .i64 (u : Int)) ∧ wr.drew.cell? ⟨b, o + k * 2 + 1, none⟩ = some (.int .i64 (v : Int)) ∧ wr.drew.cell? ⟨w.heap.size, u, none⟩ = some (.slice aq (outL (es.take k) u).length cq)) := ⟨c0, c1, hrow⟩
      have HS1 : Hid (∀ W3, wr.drew.grownBy W3 (Value.slice aq (outL (es.take k) u).length cq).ownBlock → W3.cell? ⟨b, o + k * 2, none⟩ = some (.int .i64 (u : Int)) ∧ W3.cell? ⟨b, o + k * 2 + 1, none⟩ = some (.int .i64 (v : Int)) ∧ W3.cell? ⟨w.heap.size, u, none⟩ = some (.slice aq (outL (es.take k) u).length cq) ∧ W3.frozen? ⟨w.heap.size, u, none⟩ = false) := fun W3 hg => by
        rw [← hq] at hg
        have hb3 : Below w.heap.size w W3 := HLG.out.drew.b.grown hg HLG.out.drew.b.size (fun j e => own_base (HLG.out.drew.rows u HR7.out) j e)
        have hne := row_ne HLG.out.drew.f (HLG.out.drew.rows u HR7.out)
        have hf := (hg.block w.heap.size (Array.getElem?_eq_some_iff.1 HLG.out.drew.f).1 (Ne.symm hne)).trans HLG.out.drew.f
        refine ⟨cell_kept_below HC0.out hb3, cell_kept_below HC1.out hb3, ?_, Lib.frozen_of_heap hf _⟩
        rw [← hq]
        exact cell_of_obj hf (by rw [List.getElem?_toArray]; exact vs_at (by rw [HLG.out.len]; exact HR7.out))
      have HNX : Hid (∀ v' W', On w.heap.size (outL (es.take k) u ++ [v]) v' W' → wr.drew.grownBy W' (Value.slice aq (outL (es.take k) u).length cq).ownBlock → (v'.ownBlock = (Value.slice aq (outL (es.take k) u).length cq).ownBlock ∨ v'.ownBlock = some (wr.drew.heap.size + 1)) → LG w n w.heap.size w.heap.size (outL (es.take (k + 1))) (vs.set u v') (W'.setCell ⟨w.heap.size, u, none⟩ v')) := fun v' W' ho hg hv => by
        rw [← hq] at hg hv
        exact HLG.out.drew.next HR7.out (Nat.le_refl _) (Nat.le_refl _) ho hg hv (by rw [HTK.out, outL_snoc, if_pos rfl]) (fun j hj => by rw [HTK.out, outL_snoc, if_neg (Ne.symm hj)])
      clear hq hrow c0 c1 HLG HTK HC0 HC1
      go_upto_region 7 with fail
      refine wp_region_K (fun w' => w'.cell? ⟨b, o + k * 2, none⟩ = some (.int .i64 (u : Int)) ∧ w'.cell? ⟨b, o + k * 2 + 1, none⟩ = some (.int .i64 (v : Int)) ∧ w'.cell? ⟨w.heap.size, u, none⟩ = some (.slice aq (outL (es.take k) u).length cq)) 22 (by kernel_rfl) ?_
      simp only [List.size_toArray, List.length_cons, List.length_nil, Nat.reduceAdd]
      refine wpAnyK_takeL (i := 0) (v := ?tv7x0) rfl (by kernel_rfl) (by kernel_rfl) (by kernel_rfl) (by kernel_rfl) (fun _ _ _ h => h) (by rfl) ?ty7x0 HS0.out ?tr7x0
      case ty7x0 => (intro w' hSw; obtain ⟨hs1, hs2, hs3⟩ := hSw; go_simp; try with_reducible rfl)
      simp only [Act.put, List.setIfInBounds_toArray, List.set_cons_zero, List.set_cons_succ]
      refine wpAnyK_takeL (i := 1) (v := ?tv7x1) rfl (by kernel_rfl) (by kernel_rfl) (by kernel_rfl) (by kernel_rfl) (fun _ _ _ h => h) (by rfl) ?ty7x1 HS0.out ?tr7x1
      case ty7x1 => (intro w' hSw; obtain ⟨hs1, hs2, hs3⟩ := hSw; go_simp; try with_reducible rfl)
      simp only [Act.put, List.setIfInBounds_toArray, List.set_cons_zero, List.set_cons_succ]
      refine wpAnyK_takeL (i := 2) (v := ?tv7x2) rfl (by kernel_rfl) (by kernel_rfl) (by kernel_rfl) (by kernel_rfl) (fun _ _ _ h => h) (by rfl) ?ty7x2 HS0.out ?tr7x2
      case ty7x2 => (intro w' hSw; obtain ⟨hs1, hs2, hs3⟩ := hSw; go_simp; try with_reducible rfl)
      simp only [Act.put, List.setIfInBounds_toArray, List.set_cons_zero, List.set_cons_succ]
      refine wpAnyK_takeL (i := 3) (v := ?tv7x3) rfl (by kernel_rfl) (by kernel_rfl) (by kernel_rfl) (by kernel_rfl) (fun _ _ _ h => h) (by rfl) ?ty7x3 HS0.out ?tr7x3
      case ty7x3 => (intro w' hSw; obtain ⟨hs1, hs2, hs3⟩ := hSw; go_simp; try with_reducible rfl)
      simp only [Act.put, List.setIfInBounds_toArray, List.set_cons_zero, List.set_cons_succ]
      refine wpAnyK_takeL (i := 4) (v := ?tv7x4) rfl (by kernel_rfl) (by kernel_rfl) (by kernel_rfl) (by kernel_rfl) (fun _ _ _ h => h) (by rfl) ?ty7x4 HS0.out ?tr7x4
      case ty7x4 => (intro w' hSw; obtain ⟨hs1, hs2, hs3⟩ := hSw; go_simp; try with_reducible rfl)
      simp only [Act.put, List.setIfInBounds_toArray, List.set_cons_zero, List.set_cons_succ]
      refine wpAnyK_takeL (i := 5) (v := ?tv7x5) rfl (by kernel_rfl) (by kernel_rfl) (by kernel_rfl) (by kernel_rfl) (fun _ _ _ h => h) (by rfl) ?ty7x5 HS0.out ?tr7x5
      case ty7x5 => (intro w' hSw; obtain ⟨hs1, hs2, hs3⟩ := hSw; go_simp; try with_reducible rfl)
      simp only [Act.put, List.setIfInBounds_toArray, List.set_cons_zero, List.set_cons_succ]
      refine wpAnyK_takeL (i := 6) (v := ?tv7x6) rfl (by kernel_rfl) (by kernel_rfl) (by kernel_rfl) (by kernel_rfl) (fun _ _ _ h => h) (by rfl) ?ty7x6 HS0.out ?tr7x6
      case ty7x6 => (intro w' hSw; obtain ⟨hs1, hs2, hs3⟩ := hSw; go_simp; try with_reducible rfl)
      simp only [Act.put, List.setIfInBounds_toArray, List.set_cons_zero, List.set_cons_succ]
      refine wpAnyK_takeL (i := 7) (v := ?tv7x7) rfl (by kernel_rfl) (by kernel_rfl) (by kernel_rfl) (by kernel_rfl) (fun _ _ _ h => h) (by rfl) ?ty7x7 HS0.out ?tr7x7
      case ty7x7 => (intro w' hSw; obtain ⟨hs1, hs2, hs3⟩ := hSw; go_simp; try with_reducible rfl)
      simp only [Act.put, List.setIfInBounds_toArray, List.set_cons_zero, List.set_cons_succ]
      refine wpAnyK_takeL (i := 8) (v := ?tv7x8) rfl (by kernel_rfl) (by kernel_rfl) (by kernel_rfl) (by kernel_rfl) (fun _ _ _ h => h) (by rfl) ?ty7x8 HS0.out ?tr7x8
      case ty7x8 => (intro w' hSw; obtain ⟨hs1, hs2, hs3⟩ := hSw; go_simp; try with_reducible rfl)
      simp only [Act.put, List.setIfInBounds_toArray, List.set_cons_zero, List.set_cons_succ]
      refine wpAnyK_takeL (i := 9) (v := ?tv7x9) rfl (by kernel_rfl) (by kernel_rfl) (by kernel_rfl) (by kernel_rfl) (fun _ _ _ h => h) (by rfl) ?ty7x9 HS0.out ?tr7x9
      case ty7x9 => (intro w' hSw; obtain ⟨hs1, hs2, hs3⟩ := hSw; go_simp; try with_reducible rfl)
      simp only [Act.put, List.setIfInBounds_toArray, List.set_cons_zero, List.set_cons_succ]
      refine wpAnyK_takeL (i := 10) (v := ?tv7x10) rfl (by kernel_rfl) (by kernel_rfl) (by kernel_rfl) (by kernel_rfl) (fun _ _ _ h => h) (by rfl) ?ty7x10 HS0.out ?tr7x10
      case ty7x10 => (intro w' hSw; obtain ⟨hs1, hs2, hs3⟩ := hSw; go_simp; try with_reducible rfl)
      simp only [Act.put, List.setIfInBounds_toArray, List.set_cons_zero, List.set_cons_succ]
      refine wpAnyK_takeL (i := 11) (v := ?tv7x11) rfl (by kernel_rfl) (by kernel_rfl) (by kernel_rfl) (by kernel_rfl) (fun _ _ _ h => h) (by rfl) ?ty7x11 HS0.out ?tr7x11
      case ty7x11 => (intro w' hSw; obtain ⟨hs1, hs2, hs3⟩ := hSw; go_simp; try with_reducible rfl)
      simp only [Act.put, List.setIfInBounds_toArray, List.set_cons_zero, List.set_cons_succ]
      refine wpAnyK_takeL (i := 12) (v := ?tv7x12) rfl (by kernel_rfl) (by kernel_rfl) (by kernel_rfl) (by kernel_rfl) (fun _ _ _ h => h) (by rfl) ?ty7x12 HS0.out ?tr7x12
      case ty7x12 => (intro w' hSw; obtain ⟨hs1, hs2, hs3⟩ := hSw; go_simp; try with_reducible rfl)
      simp only [Act.put, List.setIfInBounds_toArray, List.set_cons_zero, List.set_cons_succ]
      refine wpAnyK_takeL (i := 13) (v := ?tv7x13) rfl (by kernel_rfl) (by kernel_rfl) (by kernel_rfl) (by kernel_rfl) (fun _ _ _ h => h) (by rfl) ?ty7x13 HS0.out ?tr7x13
      case ty7x13 => (intro w' hSw; obtain ⟨hs1, hs2, hs3⟩ := hSw; go_simp; try with_reducible rfl)
      simp only [Act.put, List.setIfInBounds_toArray, List.set_cons_zero, List.set_cons_succ]
      refine wpAnyK_takeL (i := 14) (v := ?tv7x14) rfl (by kernel_rfl) (by kernel_rfl) (by kernel_rfl) (by kernel_rfl) (fun _ _ _ h => h) (by rfl) ?ty7x14 HS0.out ?tr7x14
      case ty7x14 => (intro w' hSw; obtain ⟨hs1, hs2, hs3⟩ := hSw; go_simp; try with_reducible rfl)
      simp only [Act.put, List.setIfInBounds_toArray, List.set_cons_zero, List.set_cons_succ]
      refine wpAnyK_takeL (i := 15) (v := ?tv7x15) rfl (by kernel_rfl) (by kernel_rfl) (by kernel_rfl) (by kernel_rfl) (fun _ _ _ h => h) (by rfl) ?ty7x15 HS0.out ?tr7x15
      case ty7x15 => (intro w' hSw; obtain ⟨hs1, hs2, hs3⟩ := hSw; go_simp; try with_reducible rfl)
      simp only [Act.put, List.setIfInBounds_toArray, List.set_cons_zero, List.set_cons_succ]
      refine wpAnyK_takeL (i := 16) (v := ?tv7x16) rfl (by kernel_rfl) (by kernel_rfl) (by kernel_rfl) (by kernel_rfl) (fun _ _ _ h => h) (by rfl) ?ty7x16 HS0.out ?tr7x16
      case ty7x16 => (intro w' hSw; obtain ⟨hs1, hs2, hs3⟩ := hSw; go_simp; try with_reducible rfl)
      simp only [Act.put, List.setIfInBounds_toArray, List.set_cons_zero, List.set_cons_succ]
      refine wpAnyK_takeL (i := 17) (v := ?tv7x17) rfl (by kernel_rfl) (by kernel_rfl) (by kernel_rfl) (by kernel_rfl) (fun _ _ _ h => h) (by rfl) ?ty7x17 HS0.out ?tr7x17
      case ty7x17 => (intro w' hSw; obtain ⟨hs1, hs2, hs3⟩ := hSw; go_simp; try with_reducible rfl)
      simp only [Act.put, List.setIfInBounds_toArray, List.set_cons_zero, List.set_cons_succ]
      refine wpAnyK_takeL (i := 18) (v := ?tv7x18) rfl (by kernel_rfl) (by kernel_rfl) (by kernel_rfl) (by kernel_rfl) (fun _ _ _ h => h) (by rfl) ?ty7x18 HS0.out ?tr7x18
      case ty7x18 => (intro w' hSw; obtain ⟨hs1, hs2, hs3⟩ := hSw; go_simp; try with_reducible rfl)
      simp only [Act.put, List.setIfInBounds_toArray, List.set_cons_zero, List.set_cons_succ]
      refine wpAnyK_one (i := 19) (by kernel_rfl) rfl (fun K hK => ?_)
      go_simp
      refine hK.out _ _ (fun _ => by obtain ⟨s1, s2, s3, _⟩ := HS1.out _ (World.grownBy_alloc _ _ _); exact ⟨s1, s2, s3⟩) ?_
      clear hK K
      refine wpAnyK_one (i := 20) (by kernel_rfl) rfl (fun K hK => ?_)
      refine step_app rfl _ _ 38 38 _ _ rfl rfl rfl HOA.out ?_
      rintro v3 W3 ⟨on3, gr3, ow3⟩
      obtain ⟨a3, c3, rfl⟩ := gown_form on3
      obtain ⟨s1, s2, s3, s4⟩ := HS1.out W3 gr3
      refine hK.out _ _ (fun _ => ⟨s1, s2, s3⟩) ?_
      clear hK K
      refine wpAnyK_one (i := 21) (by kernel_rfl) rfl (fun K hK => ?_)
      go_simp
      refine hK.out _ _ (fun _ => ⟨s1, s2, s3⟩) ?_
      clear hK K
      refine wpAnyK_one (i := 22) (by kernel_rfl) rfl (fun K hK => ?_)
      go_simp
      refine hK.out _ _ (fun h => absurd rfl h) ?_
      clear hK K
      refine wpAnyK_done (by kernel_rfl) ?_ _
      have hl5 := HNX.out _ _ on3 gr3 ow3
      rw [show (outL (es.take k) u ++ [v]).length = (outL (es.take k) u).length + 1 by simp] at hl5
      have HL5 := Hid.mk' hl5
      clear hl5 HS0 HOA HS1 HNX on3 gr3 ow3 s1 s2 s3 s4
      go_wp2_with fail
      go_roundw
      case rel => exact ⟨k + 1, _, hlt, by go_num, HL5.out⟩
      case measure => simp [intOf]; omega
    · have ht : es.take k = es := List.take_of_length_le (by omega)
      rw [ht] at hlg
      have HLG := Hid.mk' hlg
      clear ht hlg
      go_wp2_with fail
      go_ret
      exact ⟨w.heap.size, vs, rfl, HLG.out, Nat.le_refl _⟩
end Go.Proofs.YtgiokognngllcaaDoor
