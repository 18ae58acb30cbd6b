/- Bounds: is there a mark? Bounds: the analysis, refused. -/
import Derived.Test.YtfmkjdfidenfkaaDoorVg
import Derived.Test.YtfmkjdfidenfkaaDoorVh
namespace Go.Proofs.YtfmkjdfidenfkaaDoor
open Go.RowKit

set_option maxRecDepth 100000 in
set_option maxHeartbeats 2000000 in
theorem indexB_any (l : List Bool) (a : Option Addr) (c : Nat) (w : World) (h : Lst w a (l.map bV)) (hl : l.length ≤ 1000000) : Calls Tryd.prog 45 #[.slice a l.length c, .bool true] w fun e w' => ∃ r : Int, e = .returned (.int .i64 r) ∧ (0 ≤ r ↔ true ∈ l) ∧ w' = w := by
  have HH := Hid.mk' h
  clear h
  go_enter Tryd.func45, Tryd.ntmps45
  go_wp2_with fail
  go_loop [8] (fun t => ∃ (j : Nat), j ≤ l.length ∧ t = .int .i64 j ∧ ∀ k ∈ l.take j, k = false) (fun t => l.length - (intOf t).toNat)
  case atStart => exact ⟨0, Nat.zero_le _, rfl, by simp⟩
  case round =>
    obtain ⟨j, hj, rfl, hn⟩ := hrel
    have HN := Hid.mk' hn
    clear hn
    by_cases hlt : j < l.length
    · obtain ⟨b, o, rfl, c0⟩ := lst_b HH.out hlt
      have hli : (j : Int) < (l.length : Int) := by omega
      have HT := Hid.mk' (List.take_succ_eq_append_getElem hlt)
      have HM : Hid (l[j] ∈ l) := List.getElem_mem hlt
      generalize l[j] = x at *
      cases x
      · go_wp2_with fail
        go_round
        case rel => exact ⟨j + 1, by omega, by go_num, by
          intro k hk
          rw [HT.out, List.mem_append, List.mem_singleton] at hk
          rcases hk with hk | rfl
          · exact HN.out k hk
          · rfl⟩
        case measure => simp [intOf]; omega
      · go_wp2_with fail
        go_ret
        exact ⟨_, rfl, ⟨fun _ => HM.out, fun _ => by omega⟩, rfl⟩
    · go_wp2_with fail
      go_ret
      refine ⟨_, rfl, ⟨fun h => by omega, fun h => ?_⟩, rfl⟩
      have := HN.out true (by rw [List.take_of_length_le (by omega)]; exact h)
      cases this
theorem containsB_any (l : List Bool) (a : Option Addr) (c : Nat) (w : World) (h : Lst w a (l.map bV)) (hl : l.length ≤ 1000000) : Calls Tryd.prog 21 #[.slice a l.length c, .bool true] w fun e w' => e = .returned (.bool (l.any id)) ∧ w' = w := by
  have HI := Hid.mk' (indexB_any l a c w h hl)
  have HE : Hid (l.any id = true ↔ true ∈ l) := by show _ ↔ _; simp
  generalize l.any id = b at *
  clear h
  go_enter Tryd.func21, Tryd.ntmps21
  go_wp2_with (go_at_call 45; refine HI.out.mono ?_; rintro e w1 ⟨r, rfl, hr0, rfl⟩; have HR := Hid.mk' hr0; clear hr0)
  go_ret
  refine ⟨ret_bool ?_, rfl⟩
  have hr := HR.out
  cases b
  · exact decide_eq_false (by rw [hr, ← HE.out]; decide)
  · exact decide_eq_true (by rw [hr, ← HE.out])
theorem row_lst {W : World} {g : Nat} {xs : List Value} {T : TypeId} {fz : Nat × Nat} (h : W.heap[g]? = some (.cells xs.toArray T fz)) : Lst W (some ⟨g, 0, none⟩) xs := fun j u hj => ⟨g, 0, rfl, by rw [Nat.zero_add]; exact cell_of_obj h (by rw [List.getElem?_toArray]; exact hj)⟩
end Go.Proofs.YtfmkjdfidenfkaaDoor
namespace Go.Proofs.YtfmkjdfidenfkaaDoor
open Go.RowKit

/-- What Run tells. -/
def RnP (m : Mo) (fn : Int) (w : World) (e : Ending) (w' : World) : Prop := Below w.heap.size w w' ∧
  if (mayZ m).1 ≠ 0 then e = .returned (.tuple #[.agg #[.slice none 0 0, .slice none 0 0], .int .i64 (mayZ m).1])
  else if fn < 0 ∨ (m.funcs.length : Int) ≤ fn then e = .returned (.tuple #[.agg #[.slice none 0 0, .slice none 0 0], .int .i64 1])
  else ∃ (f : Fn) (L : Lay) (sd cm : List Sp), m.funcs[fn.toNat]? = some f ∧ e = .returned (.tuple #[.agg #[.slice (some ⟨L.gI, 0, none⟩) f.code.length f.code.length, .slice (some ⟨L.gC, 0, none⟩) f.code.length f.code.length], .int .i64 0]) ∧ WkAt w.heap.size f.code.length f.regs.toNat m f L (anZ m f) sd cm w'

set_option maxRecDepth 100000 in
set_option maxHeartbeats 8000000 in
theorem run_may (m : Mo) (fn : Int) (w : World) (ht : Tab w) (hm : m.In w) (hno : (mayZ m).1 ≠ 0) : Calls Tryd.prog 8 #[m.val, .int .i64 fn] w (RnP m fn w) := by
  have HEND : Hid (∀ w', Below w.heap.size w w' → RnP m fn w (.returned (.tuple #[.agg #[.slice none 0 0, .slice none 0 0], .int .i64 (mayZ m).1])) w') := fun w' h => ⟨h, by rw [if_pos hno]⟩
  have HMAY : Hid (∀ W, Below w.heap.size w W → Calls Tryd.prog 19 #[m.val] W fun e w' => e = .returned (fltV (mayZ m)) ∧ Below W.heap.size W w') := fun W hW => may_any m W (ht.stay hW) (hm.stay hW)
  have hff := fld_flt
  obtain ⟨z, hz⟩ : ∃ z, mayZ m = z := ⟨_, rfl⟩
  rw [hz] at HMAY HEND hno
  have q1 : (z.1 != 0) = true := bne_of hno
  clear hno hz ht hm
  unfold fltV at HMAY
  unfold Mo.val at HMAY ⊢
  generalize RnP m fn w = RP at *
  go_enter Tryd.func8, Tryd.ntmps8
  go_upto_region 1 with fail
  have B := Below.one (Below.one (Below.refl _ w) (.cells #[.slice m.ta m.ths.length m.tc, .slice m.fa m.funcs.length m.fc] 25)) (.cells #[.slice none 0 0, .slice none 0 0] 30)
  obtain ⟨hM, hA, -⟩ := two_nw w (.cells #[.slice m.ta m.ths.length m.tc, .slice m.fa m.funcs.length m.fc] 25) (.cells #[.slice none 0 0, .slice none 0 0] 30)
  have m0 := cell_of_obj hM (j := 0) (v := .slice m.ta m.ths.length m.tc) rfl
  have m1 := cell_of_obj hM (j := 1) (v := .slice m.fa m.funcs.length m.fc) rfl
  have HB := Hid.mk' B
  have HM := Hid.mk' hM
  have HA := Hid.mk' hA
  clear hM hA B
  generalize (w.alloc (.cells #[.slice m.ta m.ths.length m.tc, .slice m.fa m.funcs.length m.fc] 25)).alloc (.cells #[.slice none 0 0, .slice none 0 0] 30) = W at *
  go_upto_region 2 with (go_at_call 19; refine (HMAY.out _ HB.out).mono ?_; rintro e w5 ⟨rfl, hb5⟩; have HB5 := Hid.mk' (Below.on HB.out hb5); have HA5 := Hid.mk' (blk_stay HA.out hb5); have HM5 := Hid.mk' (blk_stay HM.out hb5); clear m0 m1)
  have b6 := Below.one (Below.refl _ w5) (.cells #[.int .i64 z.1, .int .i64 z.2.1, .int .i64 z.2.2] 46)
  have n6 := heap_alloc_new w5 (.cells #[.int .i64 z.1, .int .i64 z.2.1, .int .i64 z.2.2] 46)
  have hA6 := blk_stay HA5.out b6
  have hM6 := blk_stay HM5.out b6
  have HB6 := Hid.mk' (Below.on HB5.out b6)
  generalize w5.alloc (.cells #[.int .i64 z.1, .int .i64 z.2.1, .int .i64 z.2.2] 46) = W6 at *
  have x0 := cell_of_obj n6 (j := 0) (v := .int .i64 z.1) rfl
  have r0 := cell_of_obj hA6 (j := 0) (v := .slice none 0 0) rfl
  have r1 := cell_of_obj hA6 (j := 1) (v := .slice none 0 0) rfl
  have rf := fun j => Lib.frozen_of_heap hA6 j
  have e1 : ¬ w5.heap.size = w.heap.size + 1 := ne_ty n6 hA6 (by decide)
  have e2 : ¬ w.heap.size + 1 = w5.heap.size := ne_ty hA6 n6 (by decide)
  have HA6 := Hid.mk' hA6
  have HM6 := Hid.mk' hM6
  clear b6 n6 hb5 hA6 hM6
  go_upto_region 3 with fail
  have HF := Hid.mk' (HEND.out _ (Below.drew ((HB6.out.setCell (p := ⟨w.heap.size + 1, 0, none⟩) (by simp only; omega) (.slice none 0 0)).setCell (p := ⟨w.heap.size + 1, 1, none⟩) (by simp only; omega) (.slice none 0 0))))
  go_region_held3 (fun w' => w'.cell? ⟨w5.heap.size, 0, none⟩ = some (.int .i64 z.1) ∧ w'.frozen? ⟨w.heap.size + 1, 0, none⟩ = false) (go_keep) (fail)
  all_goals go_wp2_with fail
  all_goals exact bodyPost_ret (v := .tuple #[.agg #[.slice none 0 0, .slice none 0 0], .int .i64 z.1]) (by simp [results, Tryd.results8, go_sem, *]) rfl HF.out

set_option maxRecDepth 100000 in
set_option maxHeartbeats 8000000 in
theorem run_arg (m : Mo) (fn : Int) (w : World) (ht : Tab w) (hm : m.In w) (hno : (mayZ m).1 = 0) (hfn : fn < 0 ∨ (m.funcs.length : Int) ≤ fn) : Calls Tryd.prog 8 #[m.val, .int .i64 fn] w (RnP m fn w) := by
  have HEND : Hid (∀ w', Below w.heap.size w w' → RnP m fn w (.returned (.tuple #[.agg #[.slice none 0 0, .slice none 0 0], .int .i64 1])) w') := fun w' h => ⟨h, by rw [if_neg (by omega), if_pos hfn]⟩
  have HMAY : Hid (∀ W, Below w.heap.size w W → Calls Tryd.prog 19 #[m.val] W fun e w' => e = .returned (fltV (mayZ m)) ∧ Below W.heap.size W w') := fun W hW => may_any m W (ht.stay hW) (hm.stay hW)
  have hff := fld_flt
  obtain ⟨z, hz⟩ : ∃ z, mayZ m = z := ⟨_, rfl⟩
  rw [hz] at HMAY hno
  have q1 : (z.1 != 0) = false := bne_no hno
  have hfl : m.funcs.length < 4611686018427387904 := by have := hm.2.2.1.1; omega
  clear hno hz ht hm
  unfold fltV at HMAY
  unfold Mo.val at HMAY ⊢
  generalize RnP m fn w = RP at *
  go_enter Tryd.func8, Tryd.ntmps8
  go_upto_region 1 with fail
  have B := Below.one (Below.one (Below.refl _ w) (.cells #[.slice m.ta m.ths.length m.tc, .slice m.fa m.funcs.length m.fc] 25)) (.cells #[.slice none 0 0, .slice none 0 0] 30)
  obtain ⟨hM, hA, -⟩ := two_nw w (.cells #[.slice m.ta m.ths.length m.tc, .slice m.fa m.funcs.length m.fc] 25) (.cells #[.slice none 0 0, .slice none 0 0] 30)
  have m0 := cell_of_obj hM (j := 0) (v := .slice m.ta m.ths.length m.tc) rfl
  have m1 := cell_of_obj hM (j := 1) (v := .slice m.fa m.funcs.length m.fc) rfl
  have HB := Hid.mk' B
  have HM := Hid.mk' hM
  have HA := Hid.mk' hA
  clear hM hA B
  generalize (w.alloc (.cells #[.slice m.ta m.ths.length m.tc, .slice m.fa m.funcs.length m.fc] 25)).alloc (.cells #[.slice none 0 0, .slice none 0 0] 30) = W at *
  go_upto_region 2 with (go_at_call 19; refine (HMAY.out _ HB.out).mono ?_; rintro e w5 ⟨rfl, hb5⟩; have HB5 := Hid.mk' (Below.on HB.out hb5); have HA5 := Hid.mk' (blk_stay HA.out hb5); have HM5 := Hid.mk' (blk_stay HM.out hb5); clear m0 m1)
  have b6 := Below.one (Below.refl _ w5) (.cells #[.int .i64 z.1, .int .i64 z.2.1, .int .i64 z.2.2] 46)
  have n6 := heap_alloc_new w5 (.cells #[.int .i64 z.1, .int .i64 z.2.1, .int .i64 z.2.2] 46)
  have hA6 := blk_stay HA5.out b6
  have hM6 := blk_stay HM5.out b6
  have HB6 := Hid.mk' (Below.on HB5.out b6)
  generalize w5.alloc (.cells #[.int .i64 z.1, .int .i64 z.2.1, .int .i64 z.2.2] 46) = W6 at *
  have x0 := cell_of_obj n6 (j := 0) (v := .int .i64 z.1) rfl
  have r0 := cell_of_obj hA6 (j := 0) (v := .slice none 0 0) rfl
  have r1 := cell_of_obj hA6 (j := 1) (v := .slice none 0 0) rfl
  have rf := fun j => Lib.frozen_of_heap hA6 j
  have e1 : ¬ w5.heap.size = w.heap.size + 1 := ne_ty n6 hA6 (by decide)
  have e2 : ¬ w.heap.size + 1 = w5.heap.size := ne_ty hA6 n6 (by decide)
  have HA6 := Hid.mk' hA6
  have HM6 := Hid.mk' hM6
  clear b6 n6 hb5 hA6 hM6
  have y0 := cell_of_obj HM6.out (j := 0) (v := .slice m.ta m.ths.length m.tc) rfl
  have y1 := cell_of_obj HM6.out (j := 1) (v := .slice m.fa m.funcs.length m.fc) rfl
  have HF := Hid.mk' (HEND.out _ ((HB6.out.setCell (p := ⟨w.heap.size + 1, 0, none⟩) (by simp only; omega) (.slice none 0 0)).setCell (p := ⟨w.heap.size + 1, 1, none⟩) (by simp only; omega) (.slice none 0 0)))
  by_cases h2 : fn < 0
  · have q2 : decide (fn < 0) = true := decide_eq_true h2
    clear hfn h2
    go_wp2_with fail
    exact bodyPost_ret (v := .tuple #[.agg #[.slice none 0 0, .slice none 0 0], .int .i64 1]) (by simp [results, Tryd.results8, go_sem, *]) rfl HF.out
  · have q2 : decide (fn < 0) = false := decide_eq_false h2
    have h3 : (m.funcs.length : Int) ≤ fn := hfn.resolve_left h2
    have q3 : decide ((m.funcs.length : Int) ≤ fn) = true := decide_eq_true h3
    clear hfn h2 h3
    go_wp2_with fail
    exact bodyPost_ret (v := .tuple #[.agg #[.slice none 0 0, .slice none 0 0], .int .i64 1]) (by simp [results, Tryd.results8, go_sem, *]) rfl HF.out
end Go.Proofs.YtfmkjdfidenfkaaDoor
