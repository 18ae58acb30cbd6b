/- pack's reader: what is wrong is kept; the next bytes. -/
import Derived.Test.YtfamomjgjamnoaaDoorKr
namespace Go.Proofs.YtfamomjgjamnoaaDoor
open Go.RowKit Go.Sort

theorem rd_set2 {W : World} {R : Nat} {x0 x1 x2 x3 : Value} {T : TypeId} (h : W.heap[R]? = some (.cells #[x0, x1, x2, x3] T)) (u v : Value) : ((W.setCell ⟨R, 2, none⟩ u).setCell ⟨R, 3, none⟩ v).heap[R]? = some (.cells #[x0, x1, u, v] T) := by
  have h1 := heap_setCell_same W R 2 _ _ u h
  have h2 := heap_setCell_same _ R 3 _ _ v h1
  simpa using h2
theorem rd_set1 {W : World} {R : Nat} {x0 x1 x2 x3 : Value} {T : TypeId} (h : W.heap[R]? = some (.cells #[x0, x1, x2, x3] T)) (u : Value) : (W.setCell ⟨R, 1, none⟩ u).heap[R]? = some (.cells #[x0, u, x2, x3] T) := by
  have h1 := heap_setCell_same W R 1 _ _ u h
  simpa using h1
set_option maxRecDepth 100000 in
set_option maxHeartbeats 2000000 in
theorem fail_any (T : TypeId) (R : Nat) (bs : Bt) (va : Option Addr) (vc : Nat) (s : Sr) (w : World) (e p : Int) (h : RdAt T R bs va vc s w) (he : e ≠ 0) :
    Calls Tryd.prog 54 #[.pointer (some ⟨R, 0, none⟩), .int .i64 e, .int .i64 p] w fun en w' => en = .returned (.tuple #[]) ∧ RdAt T R bs va vc (failS s e p) w' ∧ OnlyB R w w' := by
  obtain ⟨a, e0, p0, hb, ha, hs⟩ := h.ex
  have HH := Hid.mk' h
  have c2 := cell_of_obj hb (j := 2) (v := .int .i64 e0) rfl
  have c3 := cell_of_obj hb (j := 3) (v := .int .i64 p0) rfl
  have z2 := Lib.frozen_of_heap hb 2
  have z3 := Lib.frozen_of_heap hb 3
  have HB := Hid.mk' hb
  clear h hb
  cases s with
  | bad e' p' =>
    obtain ⟨rfl, rfl, hne⟩ := ss_bad hs
    have hq : (e0 == 0) = false := beq_no hne
    clear hs
    go_enter Tryd.func54, Tryd.ntmps54
    go_wp2_with fail
    go_end0
    exact ⟨rfl, HH.out, OnlyB.refl _ _⟩
  | «at» a' =>
    obtain ⟨rfl, rfl⟩ := ss_at hs
    clear hs
    go_enter Tryd.func54, Tryd.ntmps54
    go_wp2_with fail
    go_end0
    have ho := ((OnlyB.refl R w).set 2 (.int .i64 e)).set 3 (.int .i64 p)
    exact ⟨rfl, HH.out.turn ho (rd_set2 HB.out _ _) ha ⟨rfl, rfl, he⟩, ho⟩
/-- A slice holds these bytes. -/
def SlB (l : Bt) (v : Value) (W : World) : Prop := ∃ a c, v = .slice a l.length c ∧ RowIn W a 1 (l.map bC)
theorem rowIn_cut {W : World} {a : Addr} {l : Bt} {i n : Nat} (h : RowIn W (some a) 1 (l.map bC)) : RowIn W (some (a.add i)) 1 (((l.drop i).take n).map bC) := by
  intro j cs hj
  rw [List.getElem?_map, Option.map_eq_some_iff] at hj
  obtain ⟨x, hx, rfl⟩ := hj
  have hx' : l[i + j]? = some x := by
    rw [List.getElem?_take] at hx
    split at hx
    · rwa [List.getElem?_drop] at hx
    · cases hx
  obtain ⟨b, o, e, hc⟩ := h (i + j) (bC x) (by rw [List.getElem?_map, hx']; rfl)
  cases e
  refine ⟨b, o + i, by rw [Addr.add_lit], fun q v hq => ?_⟩
  have := hc q v hq
  rwa [show o + ((i + j) * 1 + q) = o + i + (j * 1 + q) by omega] at this
theorem rowIn_nil {W : World} {a : Option Addr} : RowIn W a 1 (([] : Bt).map bC) := by intro i cs h; simp at h
/-- The slice of a slice. -/
theorem slB_cut {W : World} {va : Option Addr} {vc : Nat} {bs : Bt} {a n : Nat} (h : RowIn W va 1 (bs.map bC)) (hn : a + n ≤ bs.length) (hc : bs.length ≤ vc) : SlB ((bs.drop a).take n) (sliced va a (a + n) vc 1) W := by
  have hl : ((bs.drop a).take n).length = n := by rw [List.length_take, List.length_drop]; omega
  unfold sliced
  refine ⟨_, _, by rw [hl, show a + n - a = n by omega], ?_⟩
  split
  · rename_i e
    have h0 : n = 0 := by omega
    subst h0
    rw [List.take_zero]
    exact rowIn_nil
  · cases va with
    | none =>
      have := rowIn_none h rfl
      have hb : bs = [] := List.eq_nil_of_length_eq_zero this
      subst hb
      simp only [List.drop_nil, List.take_nil]
      exact rowIn_nil
    | some ad => rw [Nat.mul_one]; exact rowIn_cut h
theorem Tryd.elemB : Tryd.prog.elem 27 = 5 := by kernel_rfl
theorem slice_run (W : World) (va : Option Addr) (len vc a n : Nat) (h : a + n ≤ vc) : (Instr.slice 27 (.slice va len vc) (some (.int .i64 (a : Int))) (some (.int .i64 ((a : Int) + n))) none).run Tryd.prog W = .ok (sliced va a (a + n) vc 1) W := by
  have hu : Tryd.prog.underlying 27 = some (.slice (Tryd.prog.elem 27)) := by rw [Tryd.elemB]; exact Tryd.underlying27
  rw [run_slice_lh W 27 va len vc hu .i64 .i64 (a : Int) ((a : Int) + n) (by omega) (by omega) (by omega), Tryd.elemB, show ((a : Int) + n).toNat = a + n by omega, Int.toNat_natCast]
  obtain ⟨i0, hi, hz0, hz1, hz2⟩ := info_parts Tryd.infoByte
  simp [sizeOf, typeInfo, hi, hz1]
theorem slB_drew {l : Bt} {v : Value} {W : World} (h : SlB l v W) : SlB l v W.drew := h
set_option maxRecDepth 100000 in
set_option maxHeartbeats 4000000 in
theorem take_any (T : TypeId) (R : Nat) (bs : Bt) (va : Option Addr) (vc : Nat) (s : Sr) (w : World) (n : Nat) (h : RdAt T R bs va vc s w) (hn : n ≤ 1048576) :
    Calls Tryd.prog 56 #[.pointer (some ⟨R, 0, none⟩), .int .i64 (n : Int)] w fun en w' => ∃ v l s', en = .returned v ∧ SlB l v w' ∧ Rn (rawR n) bs s l s' ∧ l.length ≤ n ∧ RdAt T R bs va vc s' w' ∧ OnlyB R w w' := by
  obtain ⟨a, e0, p0, hb, ha, hs⟩ := h.ex
  have hcap := h.cap
  have hlen := h.len
  have HH := Hid.mk' h
  have HFA : Hid (∀ W, RdAt T R bs va vc s W → Calls Tryd.prog 54 #[.pointer (some ⟨R, 0, none⟩), .int .i64 6, .int .i64 (bs.length : Int)] W fun en w' => en = .returned (.tuple #[]) ∧ RdAt T R bs va vc (failS s 6 (bs.length : Int)) w' ∧ OnlyB R W w') := fun W h => fail_any T R bs va vc s W 6 _ h (by decide)
  have c0 := cell_of_obj hb (j := 0) (v := .slice va bs.length vc) rfl
  have c1 := cell_of_obj hb (j := 1) (v := .int .i64 (a : Int)) rfl
  have c2 := cell_of_obj hb (j := 2) (v := .int .i64 e0) rfl
  have HB := Hid.mk' hb
  clear h
  have g0 := fun d os => cell_regrown c0 d os
  have g1 := fun d os => cell_regrown c1 d os
  have hsub : IntKind.i64.wrap ((bs.length : Int) - a) = (bs.length : Int) - a := by rw [IntKind.wrap_i64]; omega
  have hsub2 : wrap64 ((bs.length : Int) - a) = (bs.length : Int) - a := by unfold wrap64; omega
  by_cases hlt : bs.length - a < n
  · have hd : decide ((bs.length : Int) - a < (n : Int)) = true := decide_eq_true (by omega)
    have hd' : (bs.length : Int) - a < (n : Int) := by omega
    have HR : Hid (∀ e p, failS s 6 (bs.length : Int) = .bad e p → Rn (rawR n) bs s [] (.bad e p)) := fun e p he => by
      cases s with
      | bad e' p' => exact he.symm
      | «at» a' =>
        obtain ⟨rfl, _⟩ := ss_at hs
        simp only [Rn, rawR, if_pos hlt]
        exact he.symm
    go_enter Tryd.func56, Tryd.ntmps56
    go_wp2_with fail
    refine wp_region_quiet_below (by kernel_rfl) (by kernel_rfl) ?_
    repeat (go_big_quiet_step (fail))
    refine wpQuiet_nil ?_
    rintro _ ⟨⟨dq, osq⟩, rfl⟩
    have B2 := below_regrown w dq osq
    have HH2 := Hid.mk' (HH.out.stay B2)
    have HO := Hid.mk' (OnlyB.of (R := R) B2)
    have x0 := g0 dq osq
    clear g0 g1 c0 c1 c2 B2 hlt hd hd' hsub hsub2
    generalize grow (redrawn w dq) osq = W2 at *
    go_wp2_with fail
    refine (HFA.out _ HH2.out).mono ?_
    rintro en W3 ⟨rfl, h3, ho3⟩
    obtain ⟨eb, pb, hfs⟩ : ∃ eb pb, failS s 6 (bs.length : Int) = .bad eb pb := by cases s <;> exact ⟨_, _, rfl⟩
    rw [hfs] at h3
    obtain ⟨a3, e3, p3, hb3, ha3, hs3⟩ := h3.ex
    obtain ⟨rfl, rfl, hne⟩ := ss_bad hs3
    have y2 := cell_of_obj hb3 (j := 2) (v := .int .i64 e3) rfl
    have hq : (e3 != 0) = true := bne_of hne
    have HX := Hid.mk' (HR.out _ _ hfs)
    have H3 := Hid.mk' h3
    have HO3 := Hid.mk' (HO.out.on ho3)
    clear h3 ho3 hb3 hs3 hfs HR HFA HO x0
    go_wp2_with fail
    go_ret
    exact ⟨_, [], _, rfl, ⟨none, 0, rfl, rowIn_nil⟩, HX.out, Nat.zero_le _, H3.out, HO3.out⟩
  · have hd : decide ((bs.length : Int) - a < (n : Int)) = false := decide_eq_false (by omega)
    have hd' : ¬ (bs.length : Int) - a < (n : Int) := by omega
    cases s with
    | bad e' p' =>
      obtain ⟨rfl, rfl, hne⟩ := ss_bad hs
      have hq : (e0 != 0) = true := bne_of hne
      clear hs HFA
      go_enter Tryd.func56, Tryd.ntmps56
      go_wp2_with fail
      refine wp_region_quiet_below (by kernel_rfl) (by kernel_rfl) ?_
      repeat (go_big_quiet_step (fail))
      refine wpQuiet_nil ?_
      rintro _ ⟨⟨dq, osq⟩, rfl⟩
      have B2 := below_regrown w dq osq
      have HH2 := Hid.mk' (HH.out.stay B2)
      have HO := Hid.mk' (OnlyB.of (R := R) B2)
      have x2 := cell_regrown c2 dq osq
      clear g0 g1 c0 c1 c2 B2 hlt hd hd' hsub hsub2
      generalize grow (redrawn w dq) osq = W2 at *
      go_wp2_with fail
      go_ret
      exact ⟨_, [], _, rfl, ⟨none, 0, rfl, rowIn_nil⟩, rfl, Nat.zero_le _, HH2.out, HO.out⟩
    | «at» a' =>
      obtain ⟨rfl, rfl⟩ := ss_at hs
      clear hs HFA
      go_enter Tryd.func56, Tryd.ntmps56
      go_wp2_with fail
      refine wp_region_quiet_below (by kernel_rfl) (by kernel_rfl) ?_
      repeat (go_big_quiet_step (fail))
      refine wpQuiet_nil ?_
      rintro _ ⟨⟨dq, osq⟩, rfl⟩
      have B2 := below_regrown w dq osq
      have HH2 := Hid.mk' (HH.out.stay B2)
      have HO := Hid.mk' (OnlyB.of (R := R) B2)
      have hb2 := blk_stay hb B2
      have x1 := cell_of_obj hb2 (j := 1) (v := .int .i64 (a : Int)) rfl
      have x2 := cell_of_obj hb2 (j := 2) (v := .int .i64 0) rfl
      have z1 := Lib.frozen_of_heap hb2 1
      have HB2 := Hid.mk' hb2
      clear g0 g1 c0 c1 c2 B2 hsub hsub2 hd hd' hb HB HH hb2
      generalize grow (redrawn w dq) osq = W2 at *
      have hadd : IntKind.i64.wrap ((a : Int) + n) = (a : Int) + n := by rw [IntKind.wrap_i64]; omega
      have hadd2 : wrap64 ((a : Int) + n) = (a : Int) + n := by unfold wrap64; omega
      go_upto_region 7 with fail
      have hb3 := rd_set1 HB2.out (.int .i64 ((a : Int) + n))
      have ho3 := HO.out.set 1 (.int .i64 ((a : Int) + n))
      have h3 := HH2.out.turn ((OnlyB.refl R W2).set 1 (.int .i64 ((a : Int) + n))) (s' := .at (a + n)) (a := a + n) (by rw [Int.natCast_add]; exact hb3) (by omega) ⟨rfl, rfl⟩
      have y0 := cell_of_obj hb3 (j := 0) (v := .slice va bs.length vc) rfl
      have y1 := cell_of_obj hb3 (j := 1) (v := .int .i64 ((a + n : Nat) : Int)) rfl
      have HS := Hid.mk' (slB_cut (a := a) (n := n) h3.by' (by omega) hcap)
      have hsl : ∀ W, (Instr.slice 27 (.slice va bs.length vc) (some (.int .i64 (a : Int))) (some (.int .i64 ((a : Int) + n))) none).run Tryd.prog W = .ok (sliced va a (a + n) vc 1) W := fun W => slice_run W va bs.length vc a n (by omega)
      obtain ⟨V5, hV⟩ : ∃ V5, sliced va a (a + n) vc 1 = V5 := ⟨_, rfl⟩
      rw [hV] at HS
      simp only [hV] at hsl
      have H3 := Hid.mk' h3
      have HO3 := Hid.mk' ho3
      have HR : Hid (Rn (rawR n) bs (.at a) ((bs.drop a).take n) (.at (a + n))) := (by simp [Rn, rawR, if_neg hlt] : Rn _ _ _ _ _)
      have HLN : Hid (((bs.drop a).take n).length ≤ n) := (by rw [List.length_take]; omega : _ ≤ n)
      clear h3 ho3 hb3 HO HH2 HB2 x1 x2 z1 hlt hV
      generalize W2.setCell ⟨R, 1, none⟩ (.int .i64 ((a : Int) + n)) = W3 at *
      generalize (bs.drop a).take n = L at *
      go_region
      all_goals go_wp2_with fail
      all_goals go_ret
      all_goals exact ⟨_, L, _, rfl, slB_drew HS.out, HR.out, HLN.out, H3.out.drew, HO3.out.on (OnlyB.of (below_drew W3))⟩
end Go.Proofs.YtfamomjgjamnoaaDoor
