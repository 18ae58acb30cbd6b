/- pack's reader: lists of spans, of instructions. -/
import Derived.Test.YtfamomjgjamnoaaDoorKv
namespace Go.Proofs.YtfamomjgjamnoaaDoor
open Go.RowKit Go.Sort

set_option maxRecDepth 100000 in
set_option maxHeartbeats 4000000 in
theorem rdSps_any (R : Nat) (bs : Bt) (va : Option Addr) (vc : Nat) (s : Sr) (w : World) (n : Nat) (h : RdAt 63 R bs va vc s w) (hv : ∀ a, va = some a → a.block < w.heap.size) (hn : n ≤ 8) :
    Calls Tryd.prog 57 #[.pointer (some ⟨R, 0, none⟩), .int .i64 (n : Int), .func (.func 58) #[.pointer (some ⟨R, 0, none⟩)] #[]] w (LsP R bs va vc s spR id spC 56 2 (fun x _ => spOk x) n w) := by
  have hR := h.lt
  have HH := Hid.mk' h
  have HV := Hid.mk' hv
  obtain ⟨i0, hi, hz0, hz1, hz2⟩ := info_parts Tryd.infoP
  have HI := Hid.mk' hi
  have HRD : Hid (∀ s W, RdAt 63 R bs va vc s W → w.heap.size ≤ W.heap.size → Calls Tryd.prog 58 #[.pointer (some ⟨R, 0, none⟩)] W (RdP 63 R bs va vc s spR spV (fun x _ => spOk x) W)) := fun s W h hs => rdSpan_any _ R bs va vc s W h (fun a e => Nat.lt_of_lt_of_le (HV.out a e) hs)
  clear h hv hi
  go_enter Tryd.func57, Tryd.ntmps57
  go_wp2_with fail
  go_loopw [7, 9] (fun t7 t9 wr => ∃ (j : Nat), j ≤ n ∧ t9 = .int .i64 j ∧ ∃ (l : List Sp) (s' : Sr) (a : Option Addr) (c : Nat), l.length = j ∧ t7 = .slice a l.length c ∧ Rn (listR spR j) bs s (l.map id) s' ∧ RdAt 63 R bs va vc s' wr ∧ OnlyB R w wr ∧ wr.ownsRow w.heap.size 56 2 (.slice a l.length c) l.length (l.flatMap spC) ∧ ∀ x ∈ l, (fun x _ => spOk x) x wr) (fun _ t9 _ => n - (intOf t9).toNat)
  case atStart => exact ⟨0, Nat.zero_le _, rfl, [], s, none, 0, rfl, rfl, Rn.ret _, HH.out, OnlyB.refl _ _, World.ownsRow_nil _ _ _ _, fun x hx => by cases hx⟩
  case round =>
    obtain ⟨j, hj, rfl, l, s', a, c, hlj, rfl, hrn, hrd, ho, hown, hP⟩ := hrel
    clear HH
    obtain ⟨ra, re, rp, hrb, hra, hrs⟩ := hrd.ex
    have c2 := cell_of_obj hrb (j := 2) (v := .int .i64 re) rfl
    have HX := Hid.mk' (And.intro hrn (And.intro hrd (And.intro ho (And.intro hown hP))))
    have HLJ := Hid.mk' hlj
    have hll : l.length ≤ 8 := by omega
    have hsz := ho.size
    clear hrn hrd ho hown hP hrb hlj
    by_cases hlt : j < n
    · have hli : (j : Int) < (n : Int) := by omega
      cases s' with
      | bad eb pb =>
        obtain ⟨rfl, rfl, hne⟩ := ss_bad hrs
        have hq : (re != 0) = true := bne_of hne
        clear hrs
        go_wp2_with fail
        go_ret
        obtain ⟨h1, h2, h3, h4, h5⟩ := HX.out
        exact ⟨l, _, a, c, rfl, h1.more n (by omega) _, h2, h3, h4, by have := HLJ.out; omega, h5⟩
      | «at» aa =>
        obtain ⟨rfl, rfl⟩ := ss_at hrs
        clear hrs
        go_upto_region 5 with fail
        have HC := Hid.mk' (HRD.out _ _ HX.out.2.1 hsz)
        go_wp2_with fail
        refine HC.out.mono ?_
        rintro e W1 ⟨x, s1, rfl, r1, q1, o1, g1⟩
        have hs1 := o1.size
        obtain ⟨h1, h2, h3, h4, h5⟩ := HX.out
        have own1 := h2.own o1 h4 (by decide)
        have bo := Below.one (Below.refl _ W1) (.cells (spC x).toArray 56)
        have HOW := Hid.mk' (own1.alloc (.cells (spC x).toArray 56))
        have HNW := Hid.mk' (newsT W1 56 (spC x))
        have HON := Hid.mk' (one_s x)
        have HS1 : Hid (w.heap.size ≤ (W1.alloc (.cells (spC x).toArray 56)).heap.size) := (by simp; omega : w.heap.size ≤ _)
        have HQ := Hid.mk' (q1.stay bo)
        have HO := Hid.mk' ((h3.on o1).on (OnlyB.of bo))
        have HR1 := Hid.mk' (h1.next r1)
        have HP : Hid (∀ y ∈ l ++ [x], (fun x _ => spOk x) y (W1.alloc (.cells (spC x).toArray 56))) := fun y hy => by
          rcases List.mem_append.1 hy with hy | hy
          · have hy1 := h5 y hy
            exact hy1
          · rw [List.mem_singleton] at hy
            subst hy
            exact g1
        clear HX HC h1 h2 h3 h4 h5 r1 q1 o1 g1 own1 bo c2
        unfold spV
        go_wp2_with (at_builtin; refine wpList_append_own _ rfl _ _ 42 rfl w.heap.size 56 i0 (.agg #[.int .i64 0, .int .i64 0]) 2 16 Tryd.underlying42 HI.out hz0 hz1 hz2 rfl (by decide) _ l.length _ rfl HOW.out ⟨W1.heap.size, 0, none⟩ 1 1 (spC x) rfl rfl HNW.out HON.out (by unfold maxLen; omega) (by omega) HS1.out ?_; intro v4 W4 own4 grow4 _; obtain ⟨a4, c4, rfl⟩ := gown_form own4)
        go_roundw
        case rel =>
          have hl1 : (l ++ [x]).length = l.length + 1 := by simp
          refine ⟨j + 1, by omega, by go_num, l ++ [x], s1, a4, c4, by rw [hl1, HLJ.out], by rw [hl1], by rw [List.map_append]; exact HR1.out, HQ.out.grown HOW.out hR HV.out grow4, HO.out.grown HOW.out (Nat.le_refl _) grow4, ?_, fun y hy => ?_⟩
          · rw [hl1, List.flatMap_append]
            simpa using own4
          · have hy1 := HP.out y hy
            exact hy1
        case measure => simp [intOf]; omega
    · have hje : j = n := by omega
      subst hje
      go_wp2_with fail
      go_ret
      obtain ⟨h1, h2, h3, h4, h5⟩ := HX.out
      exact ⟨l, _, a, c, rfl, h1, h2, h3, h4, by have := HLJ.out; omega, h5⟩
set_option maxRecDepth 100000 in
set_option maxHeartbeats 4000000 in
theorem rdIss_any (R : Nat) (bs : Bt) (va : Option Addr) (vc : Nat) (s : Sr) (w : World) (n : Nat) (h : RdAt 63 R bs va vc s w) (hv : ∀ a, va = some a → a.block < w.heap.size) (hn : n ≤ 1024) :
    Calls Tryd.prog 60 #[.pointer (some ⟨R, 0, none⟩), .int .i64 (n : Int), .func (.func 61) #[.pointer (some ⟨R, 0, none⟩)] #[]] w (LsP R bs va vc s isR id Is.cells 58 5 (fun x _ => x.Ok) n w) := by
  have hR := h.lt
  have HH := Hid.mk' h
  have HV := Hid.mk' hv
  obtain ⟨i0, hi, hz0, hz1, hz2⟩ := info_parts Tryd.infoX
  have HI := Hid.mk' hi
  have HRD : Hid (∀ s W, RdAt 63 R bs va vc s W → w.heap.size ≤ W.heap.size → Calls Tryd.prog 61 #[.pointer (some ⟨R, 0, none⟩)] W (RdP 63 R bs va vc s isR Is.val (fun x _ => x.Ok) W)) := fun s W h hs => rdIns_any _ R bs va vc s W h (fun a e => Nat.lt_of_lt_of_le (HV.out a e) hs)
  clear h hv hi
  go_enter Tryd.func60, Tryd.ntmps60
  go_wp2_with fail
  go_loopw [7, 9] (fun t7 t9 wr => ∃ (j : Nat), j ≤ n ∧ t9 = .int .i64 j ∧ ∃ (l : List Is) (s' : Sr) (a : Option Addr) (c : Nat), l.length = j ∧ t7 = .slice a l.length c ∧ Rn (listR isR j) bs s (l.map id) s' ∧ RdAt 63 R bs va vc s' wr ∧ OnlyB R w wr ∧ wr.ownsRow w.heap.size 58 5 (.slice a l.length c) l.length (l.flatMap Is.cells) ∧ ∀ x ∈ l, (fun x _ => x.Ok) x wr) (fun _ t9 _ => n - (intOf t9).toNat)
  case atStart => exact ⟨0, Nat.zero_le _, rfl, [], s, none, 0, rfl, rfl, Rn.ret _, HH.out, OnlyB.refl _ _, World.ownsRow_nil _ _ _ _, fun x hx => by cases hx⟩
  case round =>
    obtain ⟨j, hj, rfl, l, s', a, c, hlj, rfl, hrn, hrd, ho, hown, hP⟩ := hrel
    clear HH
    obtain ⟨ra, re, rp, hrb, hra, hrs⟩ := hrd.ex
    have c2 := cell_of_obj hrb (j := 2) (v := .int .i64 re) rfl
    have HX := Hid.mk' (And.intro hrn (And.intro hrd (And.intro ho (And.intro hown hP))))
    have HLJ := Hid.mk' hlj
    have hll : l.length ≤ 1024 := by omega
    have hsz := ho.size
    clear hrn hrd ho hown hP hrb hlj
    by_cases hlt : j < n
    · have hli : (j : Int) < (n : Int) := by omega
      cases s' with
      | bad eb pb =>
        obtain ⟨rfl, rfl, hne⟩ := ss_bad hrs
        have hq : (re != 0) = true := bne_of hne
        clear hrs
        go_wp2_with fail
        go_ret
        obtain ⟨h1, h2, h3, h4, h5⟩ := HX.out
        exact ⟨l, _, a, c, rfl, h1.more n (by omega) _, h2, h3, h4, by have := HLJ.out; omega, h5⟩
      | «at» aa =>
        obtain ⟨rfl, rfl⟩ := ss_at hrs
        clear hrs
        go_upto_region 5 with fail
        have HC := Hid.mk' (HRD.out _ _ HX.out.2.1 hsz)
        go_wp2_with fail
        refine HC.out.mono ?_
        rintro e W1 ⟨x, s1, rfl, r1, q1, o1, g1⟩
        have hs1 := o1.size
        obtain ⟨h1, h2, h3, h4, h5⟩ := HX.out
        have own1 := h2.own o1 h4 (by decide)
        have bo := Below.one (Below.refl _ W1) (.cells (Is.cells x).toArray 58)
        have HOW := Hid.mk' (own1.alloc (.cells (Is.cells x).toArray 58))
        have HNW := Hid.mk' (newsT W1 58 (Is.cells x))
        have HON := Hid.mk' (one_i x)
        have HS1 : Hid (w.heap.size ≤ (W1.alloc (.cells (Is.cells x).toArray 58)).heap.size) := (by simp; omega : w.heap.size ≤ _)
        have HQ := Hid.mk' (q1.stay bo)
        have HO := Hid.mk' ((h3.on o1).on (OnlyB.of bo))
        have HR1 := Hid.mk' (h1.next r1)
        have HP : Hid (∀ y ∈ l ++ [x], (fun x _ => x.Ok) y (W1.alloc (.cells (Is.cells x).toArray 58))) := fun y hy => by
          rcases List.mem_append.1 hy with hy | hy
          · have hy1 := h5 y hy
            exact hy1
          · rw [List.mem_singleton] at hy
            subst hy
            exact g1
        clear HX HC h1 h2 h3 h4 h5 r1 q1 o1 g1 own1 bo c2
        unfold Is.val
        go_wp2_with (at_builtin; refine wpList_append_own _ rfl _ _ 43 rfl w.heap.size 58 i0 (.agg #[.int .i64 0, .int .i64 0, .int .i64 0, .int .i64 0, .int .i64 0]) 5 40 Tryd.underlying43 HI.out hz0 hz1 hz2 rfl (by decide) _ l.length _ rfl HOW.out ⟨W1.heap.size, 0, none⟩ 1 1 (Is.cells x) rfl rfl HNW.out HON.out (by unfold maxLen; omega) (by omega) HS1.out ?_; intro v4 W4 own4 grow4 _; obtain ⟨a4, c4, rfl⟩ := gown_form own4)
        go_roundw
        case rel =>
          have hl1 : (l ++ [x]).length = l.length + 1 := by simp
          refine ⟨j + 1, by omega, by go_num, l ++ [x], s1, a4, c4, by rw [hl1, HLJ.out], by rw [hl1], by rw [List.map_append]; exact HR1.out, HQ.out.grown HOW.out hR HV.out grow4, HO.out.grown HOW.out (Nat.le_refl _) grow4, ?_, fun y hy => ?_⟩
          · rw [hl1, List.flatMap_append]
            simpa using own4
          · have hy1 := HP.out y hy
            exact hy1
        case measure => simp [intOf]; omega
    · have hje : j = n := by omega
      subst hje
      go_wp2_with fail
      go_ret
      obtain ⟨h1, h2, h3, h4, h5⟩ := HX.out
      exact ⟨l, _, a, c, rfl, h1, h2, h3, h4, by have := HLJ.out; omega, h5⟩
end Go.Proofs.YtfamomjgjamnoaaDoor
