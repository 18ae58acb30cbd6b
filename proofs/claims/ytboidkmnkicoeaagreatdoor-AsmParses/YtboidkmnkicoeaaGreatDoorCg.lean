/- What is wrong with an instruction: checkN, checkIns. -/
import Derived.Test.YtboidkmnkicoeaaGreatDoorCa
namespace Go.Proofs.YtboidkmnkicoeaaGreatDoor
open Go.RowKit Go.Sort

abbrev oM (m : Mo) : Obj := .cells #[.slice m.ta m.ths.length m.tc, .slice m.fa m.funcs.length m.fc] 25
abbrev oF (f : Fn) : Obj := .cells #[.string f.name, .slice f.pa f.params.length f.pc, .int .i64 f.regs, .int .i64 f.words, .slice f.ca f.code.length f.cc] 34
abbrev oX (x : Is) : Obj := .cells #[.int .i64 x.op, .int .i64 x.a, .int .i64 x.b, .int .i64 x.c, .int .i64 x.n] 36
theorem below3 (w : World) (a b c : Obj) : Below w.heap.size w (((w.alloc a).alloc b).alloc c) := Below.one (Below.one (Below.one (Below.refl _ w) a) b) c
theorem cell_m {w : World} {m : Mo} {b c : Obj} {j : Nat} {v : Value} (h : (#[.slice m.ta m.ths.length m.tc, .slice m.fa m.funcs.length m.fc] : Array Value)[j]? = some v) : (((w.alloc (oM m)).alloc b).alloc c).cell? ⟨w.heap.size, j, none⟩ = some v :=
  cell_kept_below (new_cell w _ _ j v h) (Below.one (Below.one (Below.refl _ _) b) c)
theorem cell_f {w : World} {a : Obj} {f : Fn} {c : Obj} {j : Nat} {v : Value} (h : (#[.string f.name, .slice f.pa f.params.length f.pc, .int .i64 f.regs, .int .i64 f.words, .slice f.ca f.code.length f.cc] : Array Value)[j]? = some v) : (((w.alloc a).alloc (oF f)).alloc c).cell? ⟨w.heap.size + 1, j, none⟩ = some v := by
  have := cell_kept_below (new_cell (w.alloc a) _ 34 j v h) (Below.one (Below.refl _ _) c)
  rwa [World.size_alloc] at this
theorem cell_x {w : World} {a b : Obj} {x : Is} {j : Nat} {v : Value} (h : (#[.int .i64 x.op, .int .i64 x.a, .int .i64 x.b, .int .i64 x.c, .int .i64 x.n] : Array Value)[j]? = some v) : (((w.alloc a).alloc b).alloc (oX x)).cell? ⟨w.heap.size + 1 + 1, j, none⟩ = some v := by
  have := new_cell ((w.alloc a).alloc b) _ 36 j v h
  rwa [World.size_alloc, World.size_alloc] at this

theorem rw_n (op : Int) : (rwOf op).n = 0 ∨ (rwOf op).n = 1 ∨ (rwOf op).n = 2 ∨ (rwOf op).n = 3 ∨ (rwOf op).n = 4 := by
  by_cases h : 0 ≤ op ∧ op ≤ 19
  · refine op_cases (P := fun op => (rwOf op).n = 0 ∨ (rwOf op).n = 1 ∨ (rwOf op).n = 2 ∨ (rwOf op).n = 3 ∨ (rwOf op).n = 4) h.1 h.2 ?_ ?_ ?_ ?_ ?_ ?_ ?_ ?_ ?_ ?_ ?_ ?_ ?_ ?_ ?_ ?_ ?_ ?_ ?_ ?_ <;> decide
  · rw [rwOf_no h]; simp
theorem parN_at {m : Mo} {k : Nat} (h : k < m.funcs.length) : parN m k = (m.funcs[k].params.length : Int) := by
  unfold parN; simp [h]

def callZ (m : Mo) (f : Fn) (x : Is) : Int := if x.n < 0 ∨ x.n ≥ m.funcs.length ∨ wrap64 (x.b + parN m x.n) > f.regs then 65 else 0
set_option maxRecDepth 100000 in
set_option maxHeartbeats 1000000 in
theorem checkN_call (m : Mo) (f : Fn) (x : Is) (w : World) (hm : Fns w m.fa m.funcs) (r0 : ByteArray) (r1 r2 r3 : Int) (r4 : Bool)
    (HR : Hid (Calls Tryz.prog 58 #[.int .i64 x.op] (((w.alloc (oM m)).alloc (oF f)).alloc (oX x)) fun e w' => e = .returned (.agg #[.string r0, .int .i64 r1, .int .i64 r2, .int .i64 r3, .bool r4, .int .i64 4]) ∧ Below (((w.alloc (oM m)).alloc (oF f)).alloc (oX x)).heap.size (((w.alloc (oM m)).alloc (oF f)).alloc (oX x)) w')) :
    Calls Tryz.prog 84 #[m.val, f.val, x.val] w fun e w' => e = .returned (.int .i64 (callZ m f x)) ∧ Below w.heap.size w w' := by
  have hb := below3 w (oM m) (oF f) (oX x)
  have HM := Hid.mk' (hm.stay hb)
  have hcl := hm.1
  have HZ : Hid (callZ m f x = if x.n < 0 ∨ x.n ≥ m.funcs.length ∨ wrap64 (x.b + parN m x.n) > f.regs then 65 else 0) := (rfl : callZ m f x = _)
  generalize callZ m f x = z at *
  have hfd := fld_row5
  have m1 := cell_m (w := w) (m := m) (b := oF f) (c := oX x) (j := 1) rfl
  have f2 := cell_f (w := w) (a := oM m) (f := f) (c := oX x) (j := 2) rfl
  have x2 := cell_x (w := w) (a := oM m) (b := oF f) (x := x) (j := 2) rfl
  have x4 := cell_x (w := w) (a := oM m) (b := oF f) (x := x) (j := 4) rfl
  clear hm
  unfold Mo.val Fn.val Is.val
  by_cases h0 : x.n < 0
  · have hz := HZ.out
    simp [h0] at hz
    subst hz
    clear HZ
    go_enter Tryz.func84, Tryz.ntmps84
    go_upto_region 12 with (go_at_call 58; refine HR.out.mono ?_; rintro e w1 ⟨rfl, hb1⟩; replace x4 := cell_kept_below x4 hb1; replace m1 := cell_kept_below m1 hb1; replace hb := Below.on hb hb1)
    replace x4 := fun d os => cell_regrown x4 d os
    replace m1 := fun d os => cell_regrown m1 d os
    refine wp_region_quiet_below (by kernel_rfl) (by kernel_rfl) ?_
    repeat (go_big_quiet_step (fail))
    refine wpQuiet_nil ?_
    rintro _ ⟨⟨dq, osq⟩, rfl⟩
    clear x4 m1
    go_wp2_with fail
    go_ret
    exact ⟨rfl, Below.on hb (below_regrown _ dq osq)⟩
  · by_cases h1 : (m.funcs.length : Int) ≤ x.n
    · have hz := HZ.out
      simp [h1] at hz
      subst hz
      clear HZ
      have b0 : decide (x.n < 0) = false := decide_eq_false h0
      have b1 : decide ((m.funcs.length : Int) ≤ x.n) = true := decide_eq_true h1
      go_enter Tryz.func84, Tryz.ntmps84
      go_upto_region 12 with (go_at_call 58; refine HR.out.mono ?_; rintro e w1 ⟨rfl, hb1⟩; replace x4 := cell_kept_below x4 hb1; replace m1 := cell_kept_below m1 hb1; replace hb := Below.on hb hb1)
      replace x4 := fun d os => cell_regrown x4 d os
      replace m1 := fun d os => cell_regrown m1 d os
      refine wp_region_quiet_below (by kernel_rfl) (by kernel_rfl) ?_
      repeat (go_big_quiet_step (fail))
      refine wpQuiet_nil ?_
      rintro _ ⟨⟨dq, osq⟩, rfl⟩
      clear x4 m1
      go_wp2_with fail
      go_ret
      exact ⟨rfl, Below.on hb (below_regrown _ dq osq)⟩
    · obtain ⟨k, hk⟩ : ∃ k : Nat, x.n = k := ⟨x.n.toNat, by omega⟩
      have hk1 : k < m.funcs.length := by omega
      obtain ⟨b, o, e0, c0, c1, c2, c3, c4⟩ := fns_at HM.out hk1
      have hz := HZ.out
      have hnot : ¬ ((m.funcs.length : Int) ≤ (k : Int)) := by omega
      rw [hk, parN_at hk1] at hz
      have hz2 : z = if wrap64 (x.b + (m.funcs[k].params.length : Int)) > f.regs then 65 else 0 := by
        rw [hz]; congr 1; simp only [eq_iff_iff]; constructor
        · rintro (h | h | h)
          · omega
          · exact absurd h hnot
          · exact h
        · exact fun h => .inr (.inr h)
      obtain ⟨ta, tc, ths, fa, fc, funcs⟩ := m
      obtain ⟨xo, xa, xb, xc, xn⟩ := x
      simp only at *
      subst e0
      subst hk
      have hm1 : (k : Int) < (funcs.length : Int) := by omega
      have hk0 : ¬ ((k : Int) < 0) := by omega
      have b0 : decide ((k : Int) < 0) = false := decide_eq_false hk0
      have b1 : decide ((funcs.length : Int) ≤ (k : Int)) = false := decide_eq_false hnot
      have b2 : decide (funcs.length ≤ k) = false := decide_eq_false (by omega)
      generalize funcs[k] = g at *
      clear c0 c2 c3 c4 HZ h0 h1 hnot hz HM hk1
      cases hw : decide (f.regs < wrap64 (xb + (g.params.length : Int)))
      · have hz0 : z = 0 := by rw [hz2, if_neg (of_decide_eq_false hw)]
        subst hz0
        clear hz2
        go_enter Tryz.func84, Tryz.ntmps84
        go_upto_region 12 with (go_at_call 58; refine HR.out.mono ?_; rintro e w1 ⟨rfl, hb1⟩; replace x4 := cell_kept_below x4 hb1; replace x2 := cell_kept_below x2 hb1; replace f2 := cell_kept_below f2 hb1; replace m1 := cell_kept_below m1 hb1; replace c1 := cell_kept_below c1 hb1; replace hb := Below.on hb hb1)
        replace x4 := fun d os => cell_regrown x4 d os
        replace x2 := fun d os => cell_regrown x2 d os
        replace m1 := fun d os => cell_regrown m1 d os
        replace f2 := fun d os => cell_regrown f2 d os
        replace c1 := fun d os => cell_regrown c1 d os
        refine wp_region_quiet_below (by kernel_rfl) (by kernel_rfl) ?_
        repeat (go_big_quiet_step (fail))
        refine wpQuiet_nil ?_
        rintro _ ⟨⟨dq, osq⟩, rfl⟩
        clear x4 m1 x2 f2 c1
        go_wp2_with fail
        go_ret
        exact ⟨rfl, Below.on hb (below_regrown _ dq osq)⟩
      · have hz0 : z = 65 := by rw [hz2, if_pos (of_decide_eq_true hw)]
        subst hz0
        clear hz2
        go_enter Tryz.func84, Tryz.ntmps84
        go_upto_region 12 with (go_at_call 58; refine HR.out.mono ?_; rintro e w1 ⟨rfl, hb1⟩; replace x4 := cell_kept_below x4 hb1; replace x2 := cell_kept_below x2 hb1; replace f2 := cell_kept_below f2 hb1; replace m1 := cell_kept_below m1 hb1; replace c1 := cell_kept_below c1 hb1; replace hb := Below.on hb hb1)
        replace x4 := fun d os => cell_regrown x4 d os
        replace x2 := fun d os => cell_regrown x2 d os
        replace m1 := fun d os => cell_regrown m1 d os
        replace f2 := fun d os => cell_regrown f2 d os
        replace c1 := fun d os => cell_regrown c1 d os
        refine wp_region_quiet_below (by kernel_rfl) (by kernel_rfl) ?_
        repeat (go_big_quiet_step (fail))
        refine wpQuiet_nil ?_
        rintro _ ⟨⟨dq, osq⟩, rfl⟩
        clear x4 m1 x2 f2 c1
        go_wp2_with fail
        go_ret
        exact ⟨rfl, Below.on hb (below_regrown _ dq osq)⟩
set_option maxRecDepth 100000 in
set_option maxHeartbeats 4000000 in
theorem checkN_any (m : Mo) (f : Fn) (x : Is) (w : World) (ht : Tab w) (hm : Fns w m.fa m.funcs) :
    Calls Tryz.prog 84 #[m.val, f.val, x.val] w fun e w' => e = .returned (.int .i64 (numZ m f x)) ∧ Below w.heap.size w w' := by
  have hb := below3 w (oM m) (oF f) (oX x)
  have HR := Hid.mk' (rowOf_any x.op _ (ht.stay hb))
  have HZ : Hid (numZ m f x = if (rwOf x.op).n = 0 then (if x.n ≠ 0 then 62 else 0) else if (rwOf x.op).n = 2 then (if x.n < 1 ∨ x.n > 4096 then 2 else 0) else if (rwOf x.op).n = 3 then (if x.n < 0 ∨ x.n ≥ f.code.length then 63 else 0)
    else if (rwOf x.op).n = 4 then (if x.n < 0 ∨ x.n ≥ m.funcs.length ∨ wrap64 (x.b + parN m x.n) > f.regs then 65 else 0) else 0) := (rfl : numZ m f x = _)
  have hn := rw_n x.op
  have hm0 := hm
  have hcl := hm.1
  unfold Rw.val at HR
  generalize rwOf x.op = r at *
  obtain ⟨r0, r1, r2, r3, r4, r5⟩ := r
  simp only at HR HZ hn
  generalize numZ m f x = z at *
  have hfd := fld_row5
  have m1 := cell_m (w := w) (m := m) (b := oF f) (c := oX x) (j := 1) rfl
  have f2 := cell_f (w := w) (a := oM m) (f := f) (c := oX x) (j := 2) rfl
  have f4 := cell_f (w := w) (a := oM m) (f := f) (c := oX x) (j := 4) rfl
  have x2 := cell_x (w := w) (a := oM m) (b := oF f) (x := x) (j := 2) rfl
  have x4 := cell_x (w := w) (a := oM m) (b := oF f) (x := x) (j := 4) rfl
  clear ht hm
  have hm0 := Hid.mk' hm0
  unfold Mo.val Fn.val Is.val
  rcases hn with rfl | rfl | rfl | rfl | rfl
  · by_cases h0 : x.n = 0
    · have hz := HZ.out
      simp [h0] at hz
      subst hz
      have hq : (x.n != 0) = false := bne_no h0
      clear HZ h0
      go_enter Tryz.func84, Tryz.ntmps84
      go_wp2_with (go_at_call 58; refine HR.out.mono ?_; rintro e w1 ⟨rfl, hb1⟩; replace x4 := cell_kept_below x4 hb1; replace hb := Below.on hb hb1)
      go_ret
      exact ⟨rfl, hb⟩
    · have hz := HZ.out
      simp [h0] at hz
      subst hz
      have hq : (x.n != 0) = true := bne_of h0
      clear HZ h0
      go_enter Tryz.func84, Tryz.ntmps84
      go_wp2_with (go_at_call 58; refine HR.out.mono ?_; rintro e w1 ⟨rfl, hb1⟩; replace x4 := cell_kept_below x4 hb1; replace hb := Below.on hb hb1)
      go_ret
      exact ⟨rfl, hb⟩
  · have hz := HZ.out
    simp at hz
    subst hz
    clear HZ
    go_enter Tryz.func84, Tryz.ntmps84
    go_wp2_with (go_at_call 58; refine HR.out.mono ?_; rintro e w1 ⟨rfl, hb1⟩; replace hb := Below.on hb hb1)
    go_ret
    exact ⟨rfl, hb⟩
  · by_cases h0 : x.n < 1
    · have hz := HZ.out
      simp [h0] at hz
      subst hz
      clear HZ
      go_enter Tryz.func84, Tryz.ntmps84
      go_wp2_with (go_at_call 58; refine HR.out.mono ?_; rintro e w1 ⟨rfl, hb1⟩; replace x4 := cell_kept_below x4 hb1; replace hb := Below.on hb hb1)
      go_ret
      exact ⟨rfl, hb⟩
    · by_cases h1 : 4096 < x.n
      · have hz := HZ.out
        simp [h1] at hz
        subst hz
        clear HZ
        go_enter Tryz.func84, Tryz.ntmps84
        go_wp2_with (go_at_call 58; refine HR.out.mono ?_; rintro e w1 ⟨rfl, hb1⟩; replace x4 := cell_kept_below x4 hb1; replace hb := Below.on hb hb1)
        go_ret
        exact ⟨rfl, hb⟩
      · have hz := HZ.out
        simp [h0, h1] at hz
        subst hz
        clear HZ
        go_enter Tryz.func84, Tryz.ntmps84
        go_wp2_with (go_at_call 58; refine HR.out.mono ?_; rintro e w1 ⟨rfl, hb1⟩; replace x4 := cell_kept_below x4 hb1; replace hb := Below.on hb hb1)
        go_ret
        exact ⟨rfl, hb⟩
  · by_cases h0 : x.n < 0
    · have hz := HZ.out
      simp [h0] at hz
      subst hz
      clear HZ
      go_enter Tryz.func84, Tryz.ntmps84
      go_wp2_with (go_at_call 58; refine HR.out.mono ?_; rintro e w1 ⟨rfl, hb1⟩; replace x4 := cell_kept_below x4 hb1; replace f4 := cell_kept_below f4 hb1; replace hb := Below.on hb hb1)
      go_ret
      exact ⟨rfl, hb⟩
    · by_cases h1 : (f.code.length : Int) ≤ x.n
      · have hz := HZ.out
        simp [h1] at hz
        subst hz
        clear HZ
        go_enter Tryz.func84, Tryz.ntmps84
        go_wp2_with (go_at_call 58; refine HR.out.mono ?_; rintro e w1 ⟨rfl, hb1⟩; replace x4 := cell_kept_below x4 hb1; replace f4 := cell_kept_below f4 hb1; replace hb := Below.on hb hb1)
        go_ret
        exact ⟨rfl, hb⟩
      · have hz := HZ.out
        simp [h0, h1] at hz
        subst hz
        clear HZ
        go_enter Tryz.func84, Tryz.ntmps84
        go_wp2_with (go_at_call 58; refine HR.out.mono ?_; rintro e w1 ⟨rfl, hb1⟩; replace x4 := cell_kept_below x4 hb1; replace f4 := cell_kept_below f4 hb1; replace hb := Below.on hb hb1)
        go_ret
        exact ⟨rfl, hb⟩
  · have hz : z = callZ m f x := by rw [HZ.out]; rfl
    subst hz
    exact checkN_call m f x w hm0.out r0 r1 r2 r3 r4 HR
end Go.Proofs.YtboidkmnkicoeaaGreatDoor
