/- What Find tells, as a list of loops in memory; law.fixed. -/
import Derived.Test.YtgiokognngllcaaDoorWa
import Derived.Test.YtgiokognngllcaaDoorTx
import Derived.Test.YtgiokognngllcaaDoorTz
namespace Go.Proofs.YtgiokognngllcaaDoor
open Go.RowKit Go.Sort

def loI (o : Lo) : Lp := ⟨o.head, o.par, o.ms.map (fun (n : Nat) => (n : Int)), o.bs.map (fun (n : Nat) => (n : Int))⟩
theorem map_nV (L : List Nat) : (L.map (fun (n : Nat) => (n : Int))).map iV = L.map nV := by rw [List.map_map]; rfl
theorem own_lps {l : List Is} {N : Nat} {xs : List Lr} {v : Value} {W : World} (h : OwnL l N xs v W) : ∃ a c, v = .slice a xs.length c ∧ LpsI W a (xs.map fun x => loI (x.lo l)) := by
  obtain ⟨a, c, rfl⟩ := gown_form h.list
  refine ⟨a, c, rfl, fun i y hy => ?_⟩
  rw [List.getElem?_map] at hy
  obtain ⟨x, hx, rfl⟩ : ∃ x, xs[i]? = some x ∧ loI (x.lo l) = y := by
    cases hh : xs[i]? with
    | none => rw [hh] at hy; cases hy
    | some x => rw [hh] at hy; exact ⟨x, rfl, by injection hy⟩
  obtain ⟨g, rfl⟩ : ∃ g, a = some ⟨g, 0, none⟩ := by
    rcases h.list.2 with ⟨_, e⟩ | ⟨g, cap, cur, e, _⟩
    · have h1 := h.list.1
      have := (List.getElem?_eq_some_iff.1 hx).1
      omega
    · injection e with e1 _ _
      exact ⟨g, e1⟩
  have hc : ∀ j v, (x.cells l)[j]? = some v → W.cell? ⟨g, 0 + i * 4 + j, none⟩ = some v := fun j v hj => by
    have := h.list.cells (g := g) rfl _ _ (flat_at (Lr.cells_len l) xs i j x v hx hj)
    rw [Addr.add_lit, Nat.zero_add] at this
    rw [Nat.zero_add]
    exact this
  have hm := List.mem_of_getElem? hx
  have l1 := own_lst (h.mem x hm)
  have l2 := own_lst (h.bac x hm)
  refine ⟨g, 0, x.ma, x.mc, x.ba, x.bc, rfl, hc 0 _ rfl, hc 1 _ rfl, ?_, ?_, ?_, ?_⟩
  · show _ = some (Value.slice x.ma ((mbs l x.h).map (fun (n : Nat) => (n : Int))).length x.mc)
    rw [List.length_map]
    exact hc 2 _ rfl
  · show _ = some (Value.slice x.ba ((bks l x.h).map (fun (n : Nat) => (n : Int))).length x.bc)
    rw [List.length_map]
    exact hc 3 _ rfl
  · show Lst W x.ma (((mbs l x.h).map (fun (n : Nat) => (n : Int))).map iV)
    rw [map_nV]
    exact l1
  · show Lst W x.ba (((bks l x.h).map (fun (n : Nat) => (n : Int))).map iV)
    rw [map_nV]
    exact l2
theorem OwnL.stay {l : List Is} {N : Nat} {xs : List Lr} {v : Value} {W W' : World} (h : OwnL l N xs v W) (hb : Below W.heap.size W W') : OwnL l N xs v W' :=
  ⟨own_stay h.list hb, fun x hx => own_stay (h.mem x hx) hb, fun x hx => own_stay (h.bac x hx) hb, h.ap⟩
theorem OwnL.ins {l : List Is} {N b : Nat} {xs : List Lr} {v : Value} {W : World} {cs : Array Value} {fz : Nat × Nat} (h : OwnL l N xs v W) (hb : W.heap[b]? = some (.cells cs 52 fz)) (i : Nat) (u : Value) : OwnL l N xs v (W.setCell ⟨b, i, none⟩ u) :=
  ⟨own_set h.list hb (by decide) i u, fun x hx => own_set (h.mem x hx) hb (by decide) i u, fun x hx => own_set (h.bac x hx) hb (by decide) i u, h.ap⟩
/-- One loop, laid. -/
theorem lps_one (W : World) (h p : Int) (ms bs : List Int) : ∀ W', W' = ((W.alloc (.cells (ms.map iV).toArray 3)).alloc (.cells (bs.map iV).toArray 3)).alloc (.cells #[.int .i64 h, .int .i64 p, .slice (some ⟨W.heap.size, 0, none⟩) ms.length ms.length, .slice (some ⟨W.heap.size + 1, 0, none⟩) bs.length bs.length] 40) →
    LpsI W' (some ⟨W.heap.size + 1 + 1, 0, none⟩) [⟨h, p, ms, bs⟩] := by
  rintro W' rfl i l hl
  match i, hl with
  | 0, hl =>
    cases hl
    have b1 : Below (W.heap.size + 1) (W.alloc (.cells (ms.map iV).toArray 3)) (((W.alloc (.cells (ms.map iV).toArray 3)).alloc (.cells (bs.map iV).toArray 3)).alloc (.cells #[.int .i64 h, .int .i64 p, .slice (some ⟨W.heap.size, 0, none⟩) ms.length ms.length, .slice (some ⟨W.heap.size + 1, 0, none⟩) bs.length bs.length] 40)) := by
      have := Below.one (Below.one (Below.refl (W.alloc (.cells (ms.map iV).toArray 3)).heap.size (W.alloc (.cells (ms.map iV).toArray 3))) (.cells (bs.map iV).toArray 3)) (.cells #[.int .i64 h, .int .i64 p, .slice (some ⟨W.heap.size, 0, none⟩) ms.length ms.length, .slice (some ⟨W.heap.size + 1, 0, none⟩) bs.length bs.length] 40)
      rwa [World.size_alloc] at this
    have b2 := Below.one (Below.refl ((W.alloc (.cells (ms.map iV).toArray 3)).alloc (.cells (bs.map iV).toArray 3)).heap.size ((W.alloc (.cells (ms.map iV).toArray 3)).alloc (.cells (bs.map iV).toArray 3))) (.cells #[.int .i64 h, .int .i64 p, .slice (some ⟨W.heap.size, 0, none⟩) ms.length ms.length, .slice (some ⟨W.heap.size + 1, 0, none⟩) bs.length bs.length] 40)
    have l1 := lst_new W (ms.map iV).toArray 3 (ms.map iV) (by simp)
    have l2 := lst_new (W.alloc (.cells (ms.map iV).toArray 3)) (bs.map iV).toArray 3 (bs.map iV) (by simp)
    have hx := heap_alloc_new ((W.alloc (.cells (ms.map iV).toArray 3)).alloc (.cells (bs.map iV).toArray 3)) (.cells #[.int .i64 h, .int .i64 p, .slice (some ⟨W.heap.size, 0, none⟩) ms.length ms.length, .slice (some ⟨W.heap.size + 1, 0, none⟩) bs.length bs.length] 40)
    rw [World.size_alloc, World.size_alloc] at hx
    rw [World.size_alloc] at l2
    exact ⟨W.heap.size + 1 + 1, 0, _, _, _, _, rfl, cell_of_obj hx rfl, cell_of_obj hx rfl, cell_of_obj hx rfl, cell_of_obj hx rfl, l1.stay (by rw [World.size_alloc]; exact b1), l2.stay b2⟩
theorem smp_ok (z : Int) (h : -100 ≤ z) (h' : z ≤ 100) : ∀ x ∈ smp z, x.Ok := by
  intro x hx
  unfold smp at hx
  simp only [List.mem_cons, List.not_mem_nil, or_false] at hx
  rcases hx with rfl | rfl | rfl | rfl | rfl <;> (unfold Is.Ok I64; simp only; omega)
theorem smp_set : ((smp 3).flatMap Is.cells).set 11 (.int .i64 1) = (smp 1).flatMap Is.cells := rfl
set_option maxRecDepth 100000 in
set_option maxHeartbeats 4000000 in
theorem fixed_any (w : World) (hG : 1 < w.heap.size) (hT : Tb w) (hA : Tab w) : Calls Tryd.prog 12 #[] w fun e w' => e = .returned (.bool true) ∧ Below w.heap.size w w' := by
  obtain ⟨W0, hW0⟩ : ∃ X, X = (w.alloc (.cells ((smp 3).flatMap Is.cells).toArray 52)).alloc (.cells #[.string ⟨#[]⟩, .slice none 0 0, .int .i64 0, .int .i64 0, .slice (some ⟨w.heap.size, 0, none⟩) 5 5] 25) := ⟨_, rfl⟩
  have hb0 : Below w.heap.size w W0 := by rw [hW0]; exact Below.one (Below.one (Below.refl _ w) _) _
  have HX : Hid (W0.heap[w.heap.size + 1]? = some (.cells #[.string ⟨#[]⟩, .slice none 0 0, .int .i64 0, .int .i64 0, .slice (some ⟨w.heap.size, 0, none⟩) 5 5] 25)) := by
    have := heap_alloc_new (w.alloc (.cells ((smp 3).flatMap Is.cells).toArray 52)) (.cells #[.string ⟨#[]⟩, .slice none 0 0, .int .i64 0, .int .i64 0, .slice (some ⟨w.heap.size, 0, none⟩) 5 5] 25)
    rw [World.size_alloc] at this
    rw [hW0]; exact this
  have HR : Hid (W0.ownsRow w.heap.size 52 5 (.slice (some ⟨w.heap.size, 0, none⟩) 5 5) 5 ((smp 3).flatMap Is.cells)) := by
    have := World.ownsRow_lit (base := w.heap.size) (e := 52) (size := 5) w ((smp 3).flatMap Is.cells).toArray 5 (Nat.le_refl _) (by unfold maxLen; omega) rfl
    rw [hW0]
    exact own_stay this (Below.one (Below.refl _ _) _)
  have HFI : Hid (∀ z W, Below w.heap.size w W → W.ownsRow w.heap.size 52 5 (.slice (some ⟨w.heap.size, 0, none⟩) 5 5) 5 ((smp z).flatMap Is.cells) → (∀ x ∈ smp z, x.Ok) → Calls Tryd.prog 8 #[.agg #[.string ⟨#[]⟩, .slice none 0 0, .int .i64 0, .int .i64 0, .slice (some ⟨w.heap.size, 0, none⟩) 5 5]] W (FdP (smp z) W)) := fun z W hb hr hk =>
    find_any ⟨⟨#[]⟩, none, 0, [], 0, 0, some ⟨w.heap.size, 0, none⟩, 5, smp z⟩ W (row_iss hr (by show 5 ≤ 1000000; decide)) (Nat.le_refl 5) hk (Nat.lt_of_lt_of_le hG hb.size) (hT.keep (hb.block _ hG)) (hA.stay hb)
  have HW0 := Hid.mk' hW0
  have HB0 := Hid.mk' hb0
  have z0 := cell_of_obj HX.out (j := 0) (v := .string ⟨#[]⟩) rfl
  have z1 := cell_of_obj HX.out (j := 1) (v := .slice none 0 0) rfl
  have z2 := cell_of_obj HX.out (j := 2) (v := .int .i64 0) rfl
  have z3 := cell_of_obj HX.out (j := 3) (v := .int .i64 0) rfl
  have z4 := cell_of_obj HX.out (j := 4) (v := .slice (some ⟨w.heap.size, 0, none⟩) 5 5) rfl
  rw [hW0] at z0 z1 z2 z3 z4
  clear hW0 hb0 hG hT hA
  go_enter Tryd.func12, Tryd.ntmps12
  go_wp2_with fail
  have HT1 : Hid (∀ X, W0 = X → Calls Tryd.prog 8 #[.agg #[.string ⟨#[]⟩, .slice none 0 0, .int .i64 0, .int .i64 0, .slice (some ⟨w.heap.size, 0, none⟩) 5 5]] X (FdP (smp 3) W0)) := fun X e => by subst e; exact HFI.out 3 _ HB0.out HR.out (smp_ok 3 (by decide) (by decide))
  refine (HT1.out _ HW0.out).mono ?_
  rintro e W1 ⟨v1, xs, rfl, hxs, hol, bb1⟩
  rw [smp_good] at hxs ⊢
  obtain ⟨a1, c1, rfl, hlp⟩ := own_lps hol
  have hxl : xs.length = 1 := by
    have := congrArg List.length hxs
    rwa [List.length_map] at this
  have hxm : (xs.map fun x => loI (x.lo (smp 3))) = [⟨0, -1, [0, 1, 2, 3], [3]⟩] := by
    have : (xs.map fun x => loI (x.lo (smp 3))) = (xs.map (Lr.lo (smp 3))).map loI := by rw [List.map_map]; rfl
    rw [this, hxs]
    rfl
  rw [hxm] at hlp
  rw [hxl] at hol ⊢
  have HOL := Hid.mk' hol
  have HXL := Hid.mk' hxl
  have HXM := Hid.mk' hxm
  have HLP := Hid.mk' hlp
  have HB1 := Hid.mk' bb1
  have HLT : Hid (∀ X, X = ((W1.alloc (.cells #[.int .i64 0, .int .i64 1, .int .i64 2, .int .i64 3] 3)).alloc (.cells #[.int .i64 3] 3)).alloc (.cells #[.int .i64 0, .int .i64 (-1), .slice (some ⟨W1.heap.size, 0, none⟩) 4 4, .slice (some ⟨W1.heap.size + 1, 0, none⟩) 1 1] 40) → Below W1.heap.size W1 X ∧ Calls Tryd.prog 10 #[.slice a1 1 c1, .slice (some ⟨W1.heap.size + 1 + 1, 0, none⟩) 1 1] X fun e w' => e = .returned (.bool true) ∧ Below X.heap.size X w') := fun X e => by
    have hb : Below W1.heap.size W1 X := by rw [e]; exact Below.one (Below.one (Below.one (Below.refl _ _) _) _) _
    have h2 := lps_one W1 0 (-1) [0, 1, 2, 3] [3] X e
    exact ⟨hb, lsame_any [⟨0, -1, [0, 1, 2, 3], [3]⟩] [⟨0, -1, [0, 1, 2, 3], [3]⟩] a1 _ c1 1 X (HLP.out.stay hb) h2 (by decide) (by simp)⟩
  clear hxs hol hlp hxm hxl bb1 z0 z1 z2 z3 z4 HT1
  go_wp2_with fail
  refine (HLT.out _ rfl).2.mono ?_
  rintro e W2 ⟨rfl, bb2⟩
  have hb12 : Below W1.heap.size W1 W2 := Below.on (HLT.out _ rfl).1 bb2
  have HB2 := Hid.mk' (Below.on HB1.out hb12)
  have HOL2 := Hid.mk' (HOL.out.stay hb12)
  have HX2 := Hid.mk' (blk_stay HX.out HB2.out)
  have HR2 := Hid.mk' (own_stay HR.out HB2.out)
  clear bb2 hb12 HLT HLP HOL HW0
  have z4 := cell_of_obj HX2.out (j := 4) (v := .slice (some ⟨w.heap.size, 0, none⟩) 5 5) rfl
  have y1 : W2.cell? ⟨w.heap.size, 11, none⟩ = some (.int .i64 3) := by
    have := HR2.out.cells (g := w.heap.size) rfl 11 (.int .i64 3) rfl
    rwa [Addr.add_lit, Nat.zero_add] at this
  have f1 := World.ownsRow.frozenAt HR2.out 11
  obtain ⟨cur, hcb, _⟩ := own_blk HR2.out
  have hx3 : (W2.setCell ⟨w.heap.size, 11, none⟩ (.int .i64 1)).heap[w.heap.size + 1]? = W2.heap[w.heap.size + 1]? := heap_setCell_other W2 ⟨w.heap.size, 11, none⟩ (w.heap.size + 1) _ (by simp)
  have HX3 := Hid.mk' (hx3.trans HX2.out)
  have HR3 : Hid ((W2.setCell ⟨w.heap.size, 11, none⟩ (.int .i64 1)).ownsRow w.heap.size 52 5 (.slice (some ⟨w.heap.size, 0, none⟩) 5 5) 5 ((smp 1).flatMap Is.cells)) := by
    have := (World.ownsRow.stored HR2.out 11 (.int .i64 1)).1
    rw [smp_set] at this
    exact this
  have HOL3 := Hid.mk' (HOL2.out.ins hcb 11 (.int .i64 1))
  have HB3 : Hid (Below w.heap.size w (W2.setCell ⟨w.heap.size, 11, none⟩ (.int .i64 1))) := (Below.on HB0.out HB2.out).setCell (p := ⟨w.heap.size, 11, none⟩) (Nat.le_refl _) _
  clear hx3 hcb cur HX2 HR2 HOL2 HX
  have q0 := cell_of_obj HX3.out (j := 0) (v := .string ⟨#[]⟩) rfl
  have q1 := cell_of_obj HX3.out (j := 1) (v := .slice none 0 0) rfl
  have q2 := cell_of_obj HX3.out (j := 2) (v := .int .i64 0) rfl
  have q3 := cell_of_obj HX3.out (j := 3) (v := .int .i64 0) rfl
  have q4 := cell_of_obj HX3.out (j := 4) (v := .slice (some ⟨w.heap.size, 0, none⟩) 5 5) rfl
  go_wp2_with fail
  refine (HFI.out 1 _ HB3.out HR3.out (smp_ok 1 (by decide) (by decide))).mono ?_
  rintro e W4 ⟨v4, xs4, rfl, -, -, bb4⟩
  rw [smp_bad]
  have HOL4 := Hid.mk' (HOL3.out.stay bb4)
  have HB4 : Hid (Below w.heap.size w W4) := Below.on HB3.out bb4
  clear q0 q1 q2 q3 q4 z4 y1 f1 HX3 HR3 HOL3 HB3 bb4 HFI
  obtain ⟨a', c', e, hlp⟩ := own_lps HOL4.out
  have e1 := (Value.slice.inj e).1
  rw [HXM.out, ← e1] at hlp
  clear e e1
  have hd3 := ldepth_any _ 3 a1 c1 W4 hlp (by decide) (by simp)
  have hd3' : dpt [⟨0, -1, [0, 1, 2, 3], [3]⟩] 3 = 1 := rfl
  rw [hd3'] at hd3
  have HD3 := Hid.mk' hd3
  have HLP := Hid.mk' hlp
  clear hd3 hd3' hlp HOL4 HXM HXL
  go_wp2_with fail
  refine HD3.out.mono ?_
  rintro e W5 ⟨rfl, bb5⟩
  have hd4 := ldepth_any _ 4 a1 c1 W5 (HLP.out.stay bb5) (by decide) (by simp)
  have hd4' : dpt [⟨0, -1, [0, 1, 2, 3], [3]⟩] 4 = 0 := rfl
  rw [hd4'] at hd4
  have HD4 := Hid.mk' hd4
  have HB5 := Hid.mk' (Below.on HB4.out bb5)
  clear bb5 hd4 hd4' HD3 HLP HB4
  go_wp2_with fail
  refine HD4.out.mono ?_
  rintro e W6 ⟨rfl, bb6⟩
  have HB6 := Hid.mk' (Below.on HB5.out bb6)
  clear bb6 HD4 HB5
  go_wp2_with fail
  go_ret
  exact ⟨rfl, HB6.out⟩
end Go.Proofs.YtgiokognngllcaaDoor
