/- What is wrong with a module first: checkWhole, May. -/
import Derived.Test.YtfamomjgjamnoaaDoorCj
namespace Go.Proofs.YtfamomjgjamnoaaDoor
open Go.RowKit Go.Sort

/-- A block holds a fault. -/
def FAt (W : World) (g : Nat) (z : Int × Int × Int) : Prop := W.heap[g]? = some (.cells #[.int .i64 z.1, .int .i64 z.2.1, .int .i64 z.2.2] 30)
theorem FAt.lt {W : World} {g : Nat} {z : Int × Int × Int} (h : FAt W g z) : g < W.heap.size := (Array.getElem?_eq_some_iff.1 h).1
theorem FAt.stay {W W' : World} {g : Nat} {z : Int × Int × Int} (h : FAt W g z) (hb : Below W.heap.size W W') : FAt W' g z := (hb.block _ h.lt).trans h
theorem FAt.c0 {W : World} {g : Nat} {z : Int × Int × Int} (h : FAt W g z) : W.cell? ⟨g, 0, none⟩ = some (.int .i64 z.1) := by rw [Lib.cell_of_heap h]; rfl
theorem FAt.c1 {W : World} {g : Nat} {z : Int × Int × Int} (h : FAt W g z) : W.cell? ⟨g, 1, none⟩ = some (.int .i64 z.2.1) := by rw [Lib.cell_of_heap h]; rfl
theorem FAt.c2 {W : World} {g : Nat} {z : Int × Int × Int} (h : FAt W g z) : W.cell? ⟨g, 2, none⟩ = some (.int .i64 z.2.2) := by rw [Lib.cell_of_heap h]; rfl
theorem FAt.f0 {W : World} {g : Nat} {z : Int × Int × Int} (h : FAt W g z) (j : Nat) : W.frozen? ⟨g, j, none⟩ = false := Lib.frozen_of_heap h _
theorem FAt.new (W : World) (z : Int × Int × Int) : FAt (W.alloc (.cells #[.int .i64 z.1, .int .i64 z.2.1, .int .i64 z.2.2] 30)) W.heap.size z := heap_alloc_new _ _

theorem riseN_drop {l : List Int} {i : Nat} (h : i + 1 < l.length) : riseN (l.drop i) i = if l[i + 1] ≤ l[i] then some (i + 1) else riseN (l.drop (i + 1)) (i + 1) := by
  rw [List.drop_eq_getElem_cons (show i < l.length by omega), List.drop_eq_getElem_cons h, riseN]
theorem riseN_end {l : List Int} {i : Nat} (h : ¬ i + 1 < l.length) : riseN (l.drop i) i = none := by
  have : (l.drop i).length ≤ 1 := by rw [List.length_drop]; omega
  match l.drop i, this with
  | [], _ => rfl
  | [_], _ => rfl
theorem wholeZ_many {m : Mo} (h : m.ths.length > 16) : wholeZ m = (3, 0, 16) := by unfold wholeZ; rw [if_pos h]
theorem wholeZ_rise {m : Mo} {i : Nat} (h : ¬ m.ths.length > 16) (h2 : riseN m.ths 0 = some i) : wholeZ m = (66, 0, (i : Int)) := by unfold wholeZ; rw [if_neg h, h2]
theorem wholeZ_rest {m : Mo} (h : ¬ m.ths.length > 16) (h2 : riseN m.ths 0 = none) : wholeZ m = if m.funcs.length > 32 then (3, 32, 0) else (0, 0, 0) := by unfold wholeZ; rw [if_neg h, h2]

set_option maxRecDepth 100000 in
set_option maxHeartbeats 4000000 in
theorem checkWhole_any (m : Mo) (w : World) (hm : Thr w m.ta m.ths) (hf : m.funcs.length * 80 ≤ 140737488351232) :
    Calls Tryd.prog 26 #[m.val] w fun e w' => e = .returned (fltV (wholeZ m)) ∧ Below w.heap.size w w' := by
  have hb := Below.one (Below.one (Below.refl _ w) (oM m)) (.cells #[.int .i64 0, .int .i64 0, .int .i64 0] 30)
  have b0 := cell_kept_below (new_cell w #[.slice m.ta m.ths.length m.tc, .slice m.fa m.funcs.length m.fc] 25 0 _ rfl) (Below.one (Below.refl _ _) (.cells #[.int .i64 0, .int .i64 0, .int .i64 0] 30))
  have b1 := cell_kept_below (new_cell w #[.slice m.ta m.ths.length m.tc, .slice m.fa m.funcs.length m.fc] 25 1 _ rfl) (Below.one (Below.refl _ _) (.cells #[.int .i64 0, .int .i64 0, .int .i64 0] 30))
  have F := FAt.new (w.alloc (oM m)) (0, 0, 0)
  rw [World.size_alloc] at F
  have HM := Hid.mk' (hm.stay hb)
  have hc := hm.1
  have H1 := Hid.mk' (wholeZ_many (m := m))
  have H2 : Hid (∀ i : Nat, ¬ m.ths.length > 16 → riseN m.ths 0 = some i → wholeZ m = (66, 0, (i : Int))) := fun i => wholeZ_rise
  have H3 := Hid.mk' (wholeZ_rest (m := m))
  generalize wholeZ m = Z at *
  obtain ⟨z0, z1, z2⟩ := Z
  clear hm
  obtain ⟨ta, tc, ths, fa, fc, funcs⟩ := m
  unfold Mo.val fltV
  unfold oM at *
  simp only at *
  by_cases h1 : ths.length > 16
  · have e := H1.out h1
    simp only [Prod.mk.injEq] at e
    obtain ⟨rfl, rfl, rfl⟩ := e
    have h1' : decide ((16 : Int) < (ths.length : Int)) = true := decide_eq_true (by omega)
    clear H1 H2 H3 HM
    go_enter Tryd.func26, Tryd.ntmps26
    go_wp2_with fail
    exact bodyPost_ret (v := .agg #[.int .i64 3, .int .i64 0, .int .i64 16]) (by simp [results, Tryd.results26, go_sem]) rfl ⟨rfl, Below.one (Below.one (Below.refl _ w) _) _⟩
  · have h1' : ¬ ((16 : Int) < (ths.length : Int)) := by omega
    have H2' : Hid (∀ i : Nat, riseN ths 0 = some i → (z0, z1, z2) = (66, 0, (i : Int))) := fun i h => H2.out i h1 h
    have H3' : Hid (riseN ths 0 = none → (z0, z1, z2) = if funcs.length > 32 then (3, 32, 0) else (0, 0, 0)) := fun h => H3.out h1 h
    clear H1 H2 H3 h1
    go_enter Tryd.func26, Tryd.ntmps26
    go_wp2_with fail
    generalize (w.alloc (.cells #[.slice ta ths.length tc, .slice fa funcs.length fc] 25)).alloc (.cells #[.int .i64 0, .int .i64 0, .int .i64 0] 30) = W at *
    go_loopw [3] (fun t3 wr => ∃ (i nq : Nat), (i = 0 ∨ i + 1 ≤ ths.length) ∧ t3 = .int .i64 ((i : Int) + 1) ∧ riseN (ths.drop i) i = riseN ths 0 ∧ wr = W.drewN nq) (fun t3 _ => ths.length - (intOf t3).toNat)
    case atStart => exact ⟨0, 0, .inl rfl, rfl, rfl, rfl⟩
    case round =>
      obtain ⟨i, nq, hi, rfl, hcnt, rfl⟩ := hrel
      have HCN := Hid.mk' hcnt
      clear hcnt
      by_cases hlt : i + 1 < ths.length
      · obtain ⟨b', o', ea, d0⟩ := thr_at HM.out hlt
        obtain ⟨b'', o'', rfl, d1⟩ := thr_at HM.out (show i < ths.length by omega)
        cases ea
        have hli : (i : Int) + 1 < (ths.length : Int) := by omega
        have hli2 : (i : Int) < (ths.length : Int) := by omega
        have hsub : (i : Int) + 1 - 1 = i := by omega
        have htn : ((i : Int) + 1).toNat = i + 1 := by omega
        have HDj := Hid.mk' (riseN_drop hlt)
        generalize ths[i + 1] = x at *
        generalize ths[i] = y at *
        by_cases hI : x ≤ y
        · have hz := H2'.out (i + 1) (by rw [← HCN.out, HDj.out, if_pos hI])
          simp only [Prod.mk.injEq] at hz
          obtain ⟨rfl, rfl, rfl⟩ := hz
          have q := decide_eq_true hI
          have F0 := F.c0; have F1 := F.c1; have F2 := F.c2; have G0 := F.f0 0; have G1 := F.f0 1; have G2 := F.f0 2
          simp only at F0 F1 F2
          go_wp2_with fail
          go_quiet (fail)
          go_wp2_with fail
          exact bodyPost_ret (v := .agg #[.int .i64 66, .int .i64 0, .int .i64 ((i : Int) + 1)]) (by simp [results, Tryd.results26, go_sem, *]) rfl ⟨rfl, (((hb.drewN _).setCell (by simp) _).setCell (by simp) _).setCell (by simp) _⟩
        · have q : decide (x ≤ y) = false := decide_eq_false hI
          have hn' : riseN (ths.drop (i + 1)) (i + 1) = riseN ths 0 := by rw [← HCN.out, HDj.out, if_neg hI]
          have HN := Hid.mk' hn'
          clear hn'
          go_wp2_with fail
          go_quiet (fail)
          go_wp2_with fail
          go_roundw
          case rel => exact ⟨i + 1, _, .inr (by omega), by go_num, HN.out, rfl⟩
          case measure => simp [intOf]; omega
      · have hz := H3'.out (by rw [← HCN.out, riseN_end hlt])
        have hli : ¬ ((i : Int) + 1 < (ths.length : Int)) := by omega
        have F0 := F.c0; have F1 := F.c1; have F2 := F.c2; have G0 := F.f0 0; have G1 := F.f0 1; have G2 := F.f0 2
        simp only at F0 F1 F2
        by_cases h2 : funcs.length > 32
        · rw [if_pos h2] at hz
          simp only [Prod.mk.injEq] at hz
          obtain ⟨rfl, rfl, rfl⟩ := hz
          have h2' : decide ((32 : Int) < (funcs.length : Int)) = true := decide_eq_true (by omega)
          go_wp2_with fail
          exact bodyPost_ret (v := .agg #[.int .i64 3, .int .i64 32, .int .i64 0]) (by simp [results, Tryd.results26, go_sem, *]) rfl ⟨rfl, (((hb.drewN _).setCell (by simp) _).setCell (by simp) _).setCell (by simp) _⟩
        · rw [if_neg h2] at hz
          simp only [Prod.mk.injEq] at hz
          obtain ⟨rfl, rfl, rfl⟩ := hz
          have h2' : ¬ ((32 : Int) < (funcs.length : Int)) := by omega
          go_wp2_with fail
          exact bodyPost_ret (v := .agg #[.int .i64 0, .int .i64 0, .int .i64 0]) (by simp [results, Tryd.results26, go_sem, *]) rfl ⟨rfl, (((hb.drewN _).setCell (by simp) _).setCell (by simp) _).setCell (by simp) _⟩
end Go.Proofs.YtfamomjgjamnoaaDoor
