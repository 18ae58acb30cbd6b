/- flow.Edges: the function value that it hands back tells all edges. -/
import Derived.Test.YtoabnkidfapniaaNl
namespace Go.Proofs.Ytoabnkidfapniaa
open Go.RowKit Go.Shelf

theorem nil_no (a : Addr) (n c : Nat) (w : World) : (binOp BinOp.eql 23 (.slice (some a) n c) (.slice none 0 0)).run Try.prog w = .ok (.bool false) w := by kernel_rfl
theorem nil_yes (n c : Nat) (w : World) : (binOp BinOp.eql 23 (.slice none n c) (.slice none 0 0)).run Try.prog w = .ok (.bool true) w := by kernel_rfl
set_option maxHeartbeats 1000000 in
theorem clone_any (l : List Is) (a : Option Addr) (c : Nat) (w : World) (h : RowIn w a 5 (l.map Is.cells)) (hl : l.length ≤ 1000000) : Calls Try.prog 29 #[.slice a l.length c] w fun e w' => ∃ v, e = .returned v ∧ w'.ownsRow w.heap.size 50 5 v l.length (l.flatMap Is.cells) ∧ Below w.heap.size w w' := by
  have HB := Hid.mk' (Below.refl w.heap.size w)
  cases a with
  | none =>
    have e := rowIn_none h rfl
    have hl0 : l = [] := List.eq_nil_of_length_eq_zero e
    subst hl0
    have hn := nil_yes
    clear e h hl
    go_enter Try.func29, Try.ntmps29
    go_wp2_with fail
    go_ret
    exact ⟨_, rfl, World.ownsRow_nil _ _ _ _, HB.out⟩
  | some a =>
    have HNW := Hid.mk' (src_news (h.below (Below.one HB.out (.cells #[] 50))) (fun _ => rfl) (by decide))
    have HO := Hid.mk' (row_new w 50 5)
    have HAP : Hid (∃ v' W', (Builtin.append_ #[23, 23] 23 #[.slice (some ⟨w.heap.size, 0, none⟩) 0 0, .slice (some a) l.length c]).run Try.prog (w.alloc (.cells #[] 50)) = .ok v' W' ∧ W'.ownsRow w.heap.size 50 5 v' l.length (l.flatMap Is.cells) ∧ Below w.heap.size w W') := by
      obtain ⟨i0, hi, hz0, hz1, hz2⟩ := info_parts Try.infoX
      obtain ⟨v', W', h1, h2, h3⟩ := run_append_ownS (P := Try.prog) (w.alloc (.cells #[] 50)) w.heap.size 23 23 50 i0 _ 5 40 Try.underlying23 hi hz0 hz1 hz2 rfl (by decide) _ 0 [] HO.out (some a) l.length c (l.flatMap Is.cells) (by rw [flat_len (f := Is.cells) (k := 5) (fun _ => rfl)]) (fun e => by cases e) HNW.out (one_is l) (by unfold maxLen; omega) (by omega) (by simp)
      refine ⟨v', W', h1, ?_, (Below.one HB.out (.cells #[] 50)).grown h3 (by simp) (fun k e => by simp [Value.ownBlock] at e; omega)⟩
      rw [Nat.zero_add, List.nil_append] at h2
      exact h2
    have hn := nil_no a
    clear h hl
    go_enter Try.func29, Try.ntmps29
    go_wp2_with (at_builtin; refine wpl_app rfl _ _ 23 23 _ _ rfl rfl rfl HAP.out ?_; rintro v3 W3 ⟨on3, bb3⟩; have HO3 := Hid.mk' on3; clear on3)
    go_ret
    exact ⟨_, rfl, HO3.out, bb3⟩
theorem Try.elemX : Try.prog.elem 23 = 50 := by kernel_rfl
/-- The first ones of a function's code. -/
theorem slice_code (w : World) (a : Option Addr) (l : List Is) (c n : Nat) (h : RowIn w a 5 (l.map Is.cells)) (hn : n ≤ l.length) (hc : l.length ≤ c) : ∃ a', (∀ W, (Instr.slice 23 (.slice a l.length c) none (some (.int .i64 (n : Int))) none).run Try.prog W = .ok (.slice a' n c) W) ∧ RowIn w a' 5 ((l.take n).map Is.cells) := by
  have hu : Try.prog.underlying 23 = some (.slice (Try.prog.elem 23)) := by rw [Try.elemX]; exact Try.underlying23
  obtain ⟨i0, hi, hz0, hz1, hz2⟩ := info_parts Try.infoX
  refine ⟨if c = 0 then a else a.map (·.add 0), fun W => ?_, ?_⟩
  · rw [run_slice_h W 23 _ _ c hu .i64 (n : Int) (by omega) (by omega), Try.elemX, Int.toNat_natCast]
    simp [sizeOf, typeInfo, hi, hz1, sliced]
  · intro i cs hi
    rw [List.getElem?_map, Option.map_eq_some_iff] at hi
    obtain ⟨x, hx, rfl⟩ := hi
    rw [List.getElem?_take] at hx
    split at hx
    · obtain ⟨b, o, e, hcell⟩ := h i x.cells (by rw [List.getElem?_map, hx]; rfl)
      refine ⟨b, o, ?_, hcell⟩
      rw [e, if_neg (by omega)]
      simp [Addr.add_lit]
    · cases hx
/-- What Edges hands back. -/
def EdP (l : List Is) (w : World) (e : Ending) (w' : World) : Prop := ∃ B1 B2 rs, e = .returned (.func (.func 30) #[] #[.pointer (some ⟨B1, 0, none⟩), .pointer (some ⟨B2, 0, none⟩)]) ∧ IsR l rs ∧ SeqO 30 #[.pointer (some ⟨B1, 0, none⟩), .pointer (some ⟨B2, 0, none⟩)] encE (KpE w.heap.size w'.heap.size) (edg l rs) w' ∧ Below w.heap.size w w'
theorem edg_take {l : List Is} {rs : List Bool} (h : IsR l rs) : edg (l.take rs.length) rs = edg l rs := by
  rcases h with ⟨_, rfl⟩ | ⟨h1, h2, h3, _⟩
  · rfl
  · rw [h3, List.take_length]
set_option maxRecDepth 100000 in
set_option maxHeartbeats 4000000 in
theorem edges_any (f : Fn) (w : World) (hi : Iss w f.ca f.code) (hc : f.code.length ≤ f.cc) : Calls Try.prog 21 #[f.val] w (EdP f.code w) := by
  have HR : Hid (∀ w', Below w.heap.size w w' → Calls Try.prog 14 #[f.val] w' (ReP f.code w')) := fun w' hb => reach_any f w' (hi.stay hb)
  obtain ⟨fn, fpa, fpc, fps, frg, fwd, fca, fcc, fl⟩ := f
  unfold Fn.val at *
  simp only at hi HR hc ⊢
  have HB := Hid.mk' (Below.one (Below.refl _ w) (.cells #[.string fn, .slice fpa fps.length fpc, .int .i64 frg, .int .i64 fwd, .slice fca fl.length fcc] 25))
  have HX := Hid.mk' (heap_alloc_new w (.cells #[.string fn, .slice fpa fps.length fpc, .int .i64 frg, .int .i64 fwd, .slice fca fl.length fcc] 25))
  have HI := Hid.mk' hi
  have HC := Hid.mk' hc
  clear hi hc
  go_enter Try.func21, Try.ntmps21
  go_wp2_with fail
  refine (HR.out _ HB.out).mono ?_
  rintro e W1 ⟨v1, rs, rfl, hir, ho, bb1⟩
  obtain ⟨ra, rc, rfl⟩ := gown_form ho
  have hbw := Below.on HB.out bb1
  have hrs := hir.len
  obtain ⟨a', hsl, hrow⟩ := slice_code (W1.alloc (.cells #[.slice ra rs.length rc] 37)) fca fl fcc rs.length ((HI.out.stay (Below.one hbw (.cells #[.slice ra rs.length rc] 37))).2) hir.le HC.out
  have hx1 := blk_stay HX.out (Below.one bb1 (.cells #[.slice ra rs.length rc] 37))
  have z4 := cell_of_obj hx1 (j := 4) (v := .slice fca fl.length fcc) rfl
  have hx2 := heap_alloc_new W1 (.cells #[.slice ra rs.length rc] 37)
  have z5 := cell_of_obj hx2 (j := 0) (v := .slice ra rs.length rc) rfl
  have hle := hir.le
  have HCL := Hid.mk' (clone_any (fl.take rs.length) a' fcc _ hrow (by rw [List.length_take]; omega))
  have hlt : (fl.take rs.length).length = rs.length := by rw [List.length_take]; omega
  rw [hlt] at HCL
  have HLT := Hid.mk' hlt
  have HIR := Hid.mk' hir
  have HO := Hid.mk' ho
  have HB1 := Hid.mk' hbw
  have HX2 := Hid.mk' hx2
  clear hir ho hbw hrow hx1 hx2 hlt hle bb1 HR HI HX
  go_wp2_with fail
  refine HCL.out.mono ?_
  rintro e W2 ⟨v2, rfl, ow2, bb2⟩
  obtain ⟨ca, cc, rfl⟩ := gown_form ow2
  have hs1 := bb2.size
  rw [World.size_alloc] at hs1
  have hs0 := HB1.out.size
  have HE : Hid (EdAt w.heap.size (W2.heap.size + 1) W1.heap.size W2.heap.size rs (fl.take rs.length) ra rc ca cc (W2.alloc (.cells #[.string ⟨#[]⟩, .slice none 0 0, .int .i64 0, .int .i64 0, .slice ca rs.length cc] 25))) := by
    have bo := Below.one (Below.refl _ W2) (.cells #[.string ⟨#[]⟩, .slice none 0 0, .int .i64 0, .int .i64 0, .slice ca rs.length cc] 25)
    have bo2 := Below.one bb2 (.cells #[.string ⟨#[]⟩, .slice none 0 0, .int .i64 0, .int .i64 0, .slice ca rs.length cc] 25)
    refine ⟨⟨by omega, by omega⟩, ⟨by omega, by omega⟩, blk_stay HX2.out bo2, heap_alloc_new _ _, ?_, fun k e => ?_, ?_, fun k e => ?_, HLT.out⟩
    · have h1 := own_stay (own_mono HO.out (by simp : w.heap.size ≤ _)) (Below.one (Below.refl _ W1) (.cells #[.slice ra rs.length rc] 37))
      exact own_stay h1 bo2
    · have := (HO.out.lt k e).2; omega
    · exact own_stay (own_mono ow2 (by rw [World.size_alloc]; omega)) bo
    · have := (ow2.lt k e).2; omega
  clear ow2 z4 z5 HCL HX2
  go_wp2_with fail
  go_ret
  refine ⟨_, _, rs, rfl, HIR.out, ?_, Below.one (Below.on (Below.one HB1.out _) bb2) _⟩
  rw [← edg_take HIR.out]
  have := edges_o w.heap.size (W2.heap.size + 1) W1.heap.size W2.heap.size rs (fl.take rs.length) ra rc ca cc hrs _ HE.out
  rw [World.size_alloc]
  exact this
end Go.Proofs.Ytoabnkidfapniaa
