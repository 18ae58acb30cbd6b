/- What is wrong with an instruction: checkN, checkIns. What is wrong with an instruction: checkIns. What is wrong with a function's instructions: checkCode. -/
import Derived.Test.YtfmkjdfidenfkaaDoorCa
namespace Go.Proofs.YtfmkjdfidenfkaaDoor
open Go.RowKit Go.Sort

abbrev oM (m : Mo) : Obj := .cells #[.slice m.ta m.ths.length m.tc, .slice m.fa m.funcs.length m.fc] 25
abbrev oF (f : Fn) : Obj := .cells #[.string f.name, .slice f.pa f.params.length f.pc, .int .i64 f.regs, .int .i64 f.words, .slice f.ca f.code.length f.cc] 37
abbrev oX (x : Is) : Obj := .cells #[.int .i64 x.op, .int .i64 x.a, .int .i64 x.b, .int .i64 x.c, .int .i64 x.n] 57
theorem below3 (w : World) (a b c : Obj) : Below w.heap.size w (((w.alloc a).alloc b).alloc c) := Below.one (Below.one (Below.one (Below.refl _ w) a) b) c
theorem cell_m {w : World} {m : Mo} {b c : Obj} {j : Nat} {v : Value} (h : (#[.slice m.ta m.ths.length m.tc, .slice m.fa m.funcs.length m.fc] : Array Value)[j]? = some v) : (((w.alloc (oM m)).alloc b).alloc c).cell? ⟨w.heap.size, j, none⟩ = some v :=
  cell_kept_below (new_cell w _ _ j v h) (Below.one (Below.one (Below.refl _ _) b) c)
theorem cell_f {w : World} {a : Obj} {f : Fn} {c : Obj} {j : Nat} {v : Value} (h : (#[.string f.name, .slice f.pa f.params.length f.pc, .int .i64 f.regs, .int .i64 f.words, .slice f.ca f.code.length f.cc] : Array Value)[j]? = some v) : (((w.alloc a).alloc (oF f)).alloc c).cell? ⟨w.heap.size + 1, j, none⟩ = some v := by
  have := cell_kept_below (new_cell (w.alloc a) _ 37 j v h) (Below.one (Below.refl _ _) c)
  rwa [World.size_alloc] at this
theorem cell_x {w : World} {a b : Obj} {x : Is} {j : Nat} {v : Value} (h : (#[.int .i64 x.op, .int .i64 x.a, .int .i64 x.b, .int .i64 x.c, .int .i64 x.n] : Array Value)[j]? = some v) : (((w.alloc a).alloc b).alloc (oX x)).cell? ⟨w.heap.size + 1 + 1, j, none⟩ = some v := by
  have := new_cell ((w.alloc a).alloc b) _ 57 j v h
  rwa [World.size_alloc, World.size_alloc] at this

theorem rw_n (op : Int) : (rwOf op).n = 0 ∨ (rwOf op).n = 1 ∨ (rwOf op).n = 2 ∨ (rwOf op).n = 3 ∨ (rwOf op).n = 4 := by
  by_cases h : 0 ≤ op ∧ op ≤ 19
  · refine op_cases (P := fun op => (rwOf op).n = 0 ∨ (rwOf op).n = 1 ∨ (rwOf op).n = 2 ∨ (rwOf op).n = 3 ∨ (rwOf op).n = 4) h.1 h.2 ?_ ?_ ?_ ?_ ?_ ?_ ?_ ?_ ?_ ?_ ?_ ?_ ?_ ?_ ?_ ?_ ?_ ?_ ?_ ?_ <;> decide
  · rw [rwOf_no h]; simp
theorem parN_at {m : Mo} {k : Nat} (h : k < m.funcs.length) : parN m k = (m.funcs[k].params.length : Int) := by
  unfold parN; simp [h]

def callZ (m : Mo) (f : Fn) (x : Is) : Int := if x.n < 0 ∨ x.n ≥ m.funcs.length ∨ wrap64 (x.b + parN m x.n) > f.regs then 65 else 0
set_option maxRecDepth 100000 in
set_option maxHeartbeats 1000000 in
theorem checkN_call (m : Mo) (f : Fn) (x : Is) (w : World) (hm : Fns w m.fa m.funcs) (r0 : ByteArray) (r1 r2 r3 : Int) (r4 : Bool)
    (HR : Hid (Calls Tryd.prog 88 #[.int .i64 x.op] (((w.alloc (oM m)).alloc (oF f)).alloc (oX x)) fun e w' => e = .returned (.agg #[.string r0, .int .i64 r1, .int .i64 r2, .int .i64 r3, .bool r4, .int .i64 4]) ∧ Below (((w.alloc (oM m)).alloc (oF f)).alloc (oX x)).heap.size (((w.alloc (oM m)).alloc (oF f)).alloc (oX x)) w')) :
    Calls Tryd.prog 90 #[m.val, f.val, x.val] w fun e w' => e = .returned (.int .i64 (callZ m f x)) ∧ Below w.heap.size w w' := by
  have hb := below3 w (oM m) (oF f) (oX x)
  have HM := Hid.mk' (hm.stay hb)
  have hcl := hm.1
  have HZ : Hid (callZ m f x = if x.n < 0 ∨ x.n ≥ m.funcs.length ∨ wrap64 (x.b + parN m x.n) > f.regs then 65 else 0) := (rfl : callZ m f x = _)
  generalize callZ m f x = z at *
  have hfd := fld_row5
  have m1 := cell_m (w := w) (m := m) (b := oF f) (c := oX x) (j := 1) rfl
  have f2 := cell_f (w := w) (a := oM m) (f := f) (c := oX x) (j := 2) rfl
  have x2 := cell_x (w := w) (a := oM m) (b := oF f) (x := x) (j := 2) rfl
  have x4 := cell_x (w := w) (a := oM m) (b := oF f) (x := x) (j := 4) rfl
  clear hm
  unfold Mo.val Fn.val Is.val
  by_cases h0 : x.n < 0
  · have hz := HZ.out
    simp [h0] at hz
    subst hz
    clear HZ
    go_enter Tryd.func90, Tryd.ntmps90
    go_upto_region 12 with (go_at_call 88; refine HR.out.mono ?_; rintro e w1 ⟨rfl, hb1⟩; replace x4 := cell_kept_below x4 hb1; replace m1 := cell_kept_below m1 hb1; replace hb := Below.on hb hb1)
    replace x4 := fun d os => cell_regrown x4 d os
    replace m1 := fun d os => cell_regrown m1 d os
    refine wp_region_quiet_below (by kernel_rfl) (by kernel_rfl) ?_
    repeat (go_big_quiet_step (fail))
    refine wpQuiet_nil ?_
    rintro _ ⟨⟨dq, osq⟩, rfl⟩
    clear x4 m1
    go_wp2_with fail
    go_ret
    exact ⟨rfl, Below.on hb (below_regrown _ dq osq)⟩
  · by_cases h1 : (m.funcs.length : Int) ≤ x.n
    · have hz := HZ.out
      simp [h1] at hz
      subst hz
      clear HZ
      have b0 : decide (x.n < 0) = false := decide_eq_false h0
      have b1 : decide ((m.funcs.length : Int) ≤ x.n) = true := decide_eq_true h1
      go_enter Tryd.func90, Tryd.ntmps90
      go_upto_region 12 with (go_at_call 88; refine HR.out.mono ?_; rintro e w1 ⟨rfl, hb1⟩; replace x4 := cell_kept_below x4 hb1; replace m1 := cell_kept_below m1 hb1; replace hb := Below.on hb hb1)
      replace x4 := fun d os => cell_regrown x4 d os
      replace m1 := fun d os => cell_regrown m1 d os
      refine wp_region_quiet_below (by kernel_rfl) (by kernel_rfl) ?_
      repeat (go_big_quiet_step (fail))
      refine wpQuiet_nil ?_
      rintro _ ⟨⟨dq, osq⟩, rfl⟩
      clear x4 m1
      go_wp2_with fail
      go_ret
      exact ⟨rfl, Below.on hb (below_regrown _ dq osq)⟩
    · obtain ⟨k, hk⟩ : ∃ k : Nat, x.n = k := ⟨x.n.toNat, by omega⟩
      have hk1 : k < m.funcs.length := by omega
      obtain ⟨b, o, e0, c0, c1, c2, c3, c4⟩ := fns_at HM.out hk1
      have hz := HZ.out
      have hnot : ¬ ((m.funcs.length : Int) ≤ (k : Int)) := by omega
      rw [hk, parN_at hk1] at hz
      have hz2 : z = if wrap64 (x.b + (m.funcs[k].params.length : Int)) > f.regs then 65 else 0 := by
        rw [hz]; congr 1; simp only [eq_iff_iff]; constructor
        · rintro (h | h | h)
          · omega
          · exact absurd h hnot
          · exact h
        · exact fun h => .inr (.inr h)
      obtain ⟨ta, tc, ths, fa, fc, funcs⟩ := m
      obtain ⟨xo, xa, xb, xc, xn⟩ := x
      simp only at *
      subst e0
      subst hk
      have hm1 : (k : Int) < (funcs.length : Int) := by omega
      have hk0 : ¬ ((k : Int) < 0) := by omega
      have b0 : decide ((k : Int) < 0) = false := decide_eq_false hk0
      have b1 : decide ((funcs.length : Int) ≤ (k : Int)) = false := decide_eq_false hnot
      have b2 : decide (funcs.length ≤ k) = false := decide_eq_false (by omega)
      generalize funcs[k] = g at *
      clear c0 c2 c3 c4 HZ h0 h1 hnot hz HM hk1
      cases hw : decide (f.regs < wrap64 (xb + (g.params.length : Int)))
      · have hz0 : z = 0 := by rw [hz2, if_neg (of_decide_eq_false hw)]
        subst hz0
        clear hz2
        go_enter Tryd.func90, Tryd.ntmps90
        go_upto_region 12 with (go_at_call 88; refine HR.out.mono ?_; rintro e w1 ⟨rfl, hb1⟩; replace x4 := cell_kept_below x4 hb1; replace x2 := cell_kept_below x2 hb1; replace f2 := cell_kept_below f2 hb1; replace m1 := cell_kept_below m1 hb1; replace c1 := cell_kept_below c1 hb1; replace hb := Below.on hb hb1)
        replace x4 := fun d os => cell_regrown x4 d os
        replace x2 := fun d os => cell_regrown x2 d os
        replace m1 := fun d os => cell_regrown m1 d os
        replace f2 := fun d os => cell_regrown f2 d os
        replace c1 := fun d os => cell_regrown c1 d os
        refine wp_region_quiet_below (by kernel_rfl) (by kernel_rfl) ?_
        repeat (go_big_quiet_step (fail))
        refine wpQuiet_nil ?_
        rintro _ ⟨⟨dq, osq⟩, rfl⟩
        clear x4 m1 x2 f2 c1
        go_wp2_with fail
        go_ret
        exact ⟨rfl, Below.on hb (below_regrown _ dq osq)⟩
      · have hz0 : z = 65 := by rw [hz2, if_pos (of_decide_eq_true hw)]
        subst hz0
        clear hz2
        go_enter Tryd.func90, Tryd.ntmps90
        go_upto_region 12 with (go_at_call 88; refine HR.out.mono ?_; rintro e w1 ⟨rfl, hb1⟩; replace x4 := cell_kept_below x4 hb1; replace x2 := cell_kept_below x2 hb1; replace f2 := cell_kept_below f2 hb1; replace m1 := cell_kept_below m1 hb1; replace c1 := cell_kept_below c1 hb1; replace hb := Below.on hb hb1)
        replace x4 := fun d os => cell_regrown x4 d os
        replace x2 := fun d os => cell_regrown x2 d os
        replace m1 := fun d os => cell_regrown m1 d os
        replace f2 := fun d os => cell_regrown f2 d os
        replace c1 := fun d os => cell_regrown c1 d os
        refine wp_region_quiet_below (by kernel_rfl) (by kernel_rfl) ?_
        repeat (go_big_quiet_step (fail))
        refine wpQuiet_nil ?_
        rintro _ ⟨⟨dq, osq⟩, rfl⟩
        clear x4 m1 x2 f2 c1
        go_wp2_with fail
        go_ret
        exact ⟨rfl, Below.on hb (below_regrown _ dq osq)⟩
set_option maxRecDepth 100000 in
set_option maxHeartbeats 4000000 in
theorem checkN_any (m : Mo) (f : Fn) (x : Is) (w : World) (ht : Tab w) (hm : Fns w m.fa m.funcs) :
    Calls Tryd.prog 90 #[m.val, f.val, x.val] w fun e w' => e = .returned (.int .i64 (numZ m f x)) ∧ Below w.heap.size w w' := by
  have hb := below3 w (oM m) (oF f) (oX x)
  have HR := Hid.mk' (rowOf_any x.op _ (ht.stay hb))
  have HZ : Hid (numZ m f x = if (rwOf x.op).n = 0 then (if x.n ≠ 0 then 62 else 0) else if (rwOf x.op).n = 2 then (if x.n < 1 ∨ x.n > 4096 then 2 else 0) else if (rwOf x.op).n = 3 then (if x.n < 0 ∨ x.n ≥ f.code.length then 63 else 0)
    else if (rwOf x.op).n = 4 then (if x.n < 0 ∨ x.n ≥ m.funcs.length ∨ wrap64 (x.b + parN m x.n) > f.regs then 65 else 0) else 0) := (rfl : numZ m f x = _)
  have hn := rw_n x.op
  have hm0 := hm
  have hcl := hm.1
  unfold Rw.val at HR
  generalize rwOf x.op = r at *
  obtain ⟨r0, r1, r2, r3, r4, r5⟩ := r
  simp only at HR HZ hn
  generalize numZ m f x = z at *
  have hfd := fld_row5
  have m1 := cell_m (w := w) (m := m) (b := oF f) (c := oX x) (j := 1) rfl
  have f2 := cell_f (w := w) (a := oM m) (f := f) (c := oX x) (j := 2) rfl
  have f4 := cell_f (w := w) (a := oM m) (f := f) (c := oX x) (j := 4) rfl
  have x2 := cell_x (w := w) (a := oM m) (b := oF f) (x := x) (j := 2) rfl
  have x4 := cell_x (w := w) (a := oM m) (b := oF f) (x := x) (j := 4) rfl
  clear ht hm
  have hm0 := Hid.mk' hm0
  unfold Mo.val Fn.val Is.val
  rcases hn with rfl | rfl | rfl | rfl | rfl
  · by_cases h0 : x.n = 0
    · have hz := HZ.out
      simp [h0] at hz
      subst hz
      have hq : (x.n != 0) = false := bne_no h0
      clear HZ h0
      go_enter Tryd.func90, Tryd.ntmps90
      go_wp2_with (go_at_call 88; refine HR.out.mono ?_; rintro e w1 ⟨rfl, hb1⟩; replace x4 := cell_kept_below x4 hb1; replace hb := Below.on hb hb1)
      go_ret
      exact ⟨rfl, hb⟩
    · have hz := HZ.out
      simp [h0] at hz
      subst hz
      have hq : (x.n != 0) = true := bne_of h0
      clear HZ h0
      go_enter Tryd.func90, Tryd.ntmps90
      go_wp2_with (go_at_call 88; refine HR.out.mono ?_; rintro e w1 ⟨rfl, hb1⟩; replace x4 := cell_kept_below x4 hb1; replace hb := Below.on hb hb1)
      go_ret
      exact ⟨rfl, hb⟩
  · have hz := HZ.out
    simp at hz
    subst hz
    clear HZ
    go_enter Tryd.func90, Tryd.ntmps90
    go_wp2_with (go_at_call 88; refine HR.out.mono ?_; rintro e w1 ⟨rfl, hb1⟩; replace hb := Below.on hb hb1)
    go_ret
    exact ⟨rfl, hb⟩
  · by_cases h0 : x.n < 1
    · have hz := HZ.out
      simp [h0] at hz
      subst hz
      clear HZ
      go_enter Tryd.func90, Tryd.ntmps90
      go_wp2_with (go_at_call 88; refine HR.out.mono ?_; rintro e w1 ⟨rfl, hb1⟩; replace x4 := cell_kept_below x4 hb1; replace hb := Below.on hb hb1)
      go_ret
      exact ⟨rfl, hb⟩
    · by_cases h1 : 4096 < x.n
      · have hz := HZ.out
        simp [h1] at hz
        subst hz
        clear HZ
        go_enter Tryd.func90, Tryd.ntmps90
        go_wp2_with (go_at_call 88; refine HR.out.mono ?_; rintro e w1 ⟨rfl, hb1⟩; replace x4 := cell_kept_below x4 hb1; replace hb := Below.on hb hb1)
        go_ret
        exact ⟨rfl, hb⟩
      · have hz := HZ.out
        simp [h0, h1] at hz
        subst hz
        clear HZ
        go_enter Tryd.func90, Tryd.ntmps90
        go_wp2_with (go_at_call 88; refine HR.out.mono ?_; rintro e w1 ⟨rfl, hb1⟩; replace x4 := cell_kept_below x4 hb1; replace hb := Below.on hb hb1)
        go_ret
        exact ⟨rfl, hb⟩
  · by_cases h0 : x.n < 0
    · have hz := HZ.out
      simp [h0] at hz
      subst hz
      clear HZ
      go_enter Tryd.func90, Tryd.ntmps90
      go_wp2_with (go_at_call 88; refine HR.out.mono ?_; rintro e w1 ⟨rfl, hb1⟩; replace x4 := cell_kept_below x4 hb1; replace f4 := cell_kept_below f4 hb1; replace hb := Below.on hb hb1)
      go_ret
      exact ⟨rfl, hb⟩
    · by_cases h1 : (f.code.length : Int) ≤ x.n
      · have hz := HZ.out
        simp [h1] at hz
        subst hz
        clear HZ
        go_enter Tryd.func90, Tryd.ntmps90
        go_wp2_with (go_at_call 88; refine HR.out.mono ?_; rintro e w1 ⟨rfl, hb1⟩; replace x4 := cell_kept_below x4 hb1; replace f4 := cell_kept_below f4 hb1; replace hb := Below.on hb hb1)
        go_ret
        exact ⟨rfl, hb⟩
      · have hz := HZ.out
        simp [h0, h1] at hz
        subst hz
        clear HZ
        go_enter Tryd.func90, Tryd.ntmps90
        go_wp2_with (go_at_call 88; refine HR.out.mono ?_; rintro e w1 ⟨rfl, hb1⟩; replace x4 := cell_kept_below x4 hb1; replace f4 := cell_kept_below f4 hb1; replace hb := Below.on hb hb1)
        go_ret
        exact ⟨rfl, hb⟩
  · have hz : z = callZ m f x := by rw [HZ.out]; rfl
    subst hz
    exact checkN_call m f x w hm0.out r0 r1 r2 r3 r4 HR
end Go.Proofs.YtfmkjdfidenfkaaDoor
namespace Go.Proofs.YtfmkjdfidenfkaaDoor
open Go.RowKit Go.Sort

theorem ix_0 (a b c : Int) (w : World) : (Instr.index 118 (.agg #[.int .i64 a, .int .i64 b, .int .i64 c]) (.int .i64 0)).run Tryd.prog w = .ok (.int .i64 a) w := by kernel_rfl
theorem ix_1 (a b c : Int) (w : World) : (Instr.index 118 (.agg #[.int .i64 a, .int .i64 b, .int .i64 c]) (.int .i64 1)).run Tryd.prog w = .ok (.int .i64 b) w := by kernel_rfl
theorem ix_2 (a b c : Int) (w : World) : (Instr.index 118 (.agg #[.int .i64 a, .int .i64 b, .int .i64 c]) (.int .i64 2)).run Tryd.prog w = .ok (.int .i64 c) w := by kernel_rfl
set_option maxRecDepth 100000 in
set_option maxHeartbeats 4000000 in
theorem checkIns_any (m : Mo) (f : Fn) (x : Is) (w : World) (ht : Tab w) (hm : Fns w m.fa m.funcs) :
    Calls Tryd.prog 73 #[m.val, f.val, x.val] w fun e w' => e = .returned (.int .i64 (insZ m f x)) ∧ Below w.heap.size w w' := by
  have hb := below3 w (oM m) (oF f) (oX x)
  have f2 := cell_f (w := w) (a := oM m) (f := f) (c := oX x) (j := 2) rfl
  have f0 := cell_f (w := w) (a := oM m) (f := f) (c := oX x) (j := 0) rfl
  have f1 := cell_f (w := w) (a := oM m) (f := f) (c := oX x) (j := 1) rfl
  have f3 := cell_f (w := w) (a := oM m) (f := f) (c := oX x) (j := 3) rfl
  have f4 := cell_f (w := w) (a := oM m) (f := f) (c := oX x) (j := 4) rfl
  have m0 := cell_m (w := w) (m := m) (b := oF f) (c := oX x) (j := 0) rfl
  have m1 := cell_m (w := w) (m := m) (b := oF f) (c := oX x) (j := 1) rfl
  have x0 := cell_x (w := w) (a := oM m) (b := oF f) (x := x) (j := 0) rfl
  have x1 := cell_x (w := w) (a := oM m) (b := oF f) (x := x) (j := 1) rfl
  have x2 := cell_x (w := w) (a := oM m) (b := oF f) (x := x) (j := 2) rfl
  have x3 := cell_x (w := w) (a := oM m) (b := oF f) (x := x) (j := 3) rfl
  have x4 := cell_x (w := w) (a := oM m) (b := oF f) (x := x) (j := 4) rfl
  have HK := Hid.mk' (known_any x.op)
  have HR := Hid.mk' (rowOf_any x.op _ (ht.stay hb))
  have HF := Hid.mk' (fields_any x)
  have HN : Hid (∀ w', Below w.heap.size w w' → Calls Tryd.prog 90 #[m.val, f.val, x.val] w' fun e w'' => e = .returned (.int .i64 (numZ m f x)) ∧ Below w'.heap.size w' w'') := fun w' hb => checkN_any m f x w' (ht.stay hb) (hm.stay hb)
  have HI : Hid (insZ m f x = if knB x.op = false then 60 else if regZ (bt (rwOf x.op).regs 0) x.a f.regs ≠ 0 then regZ (bt (rwOf x.op).regs 0) x.a f.regs else if regZ (bt (rwOf x.op).regs 1) x.b f.regs ≠ 0 then regZ (bt (rwOf x.op).regs 1) x.b f.regs else
    if regZ (bt (rwOf x.op).regs 2) x.c f.regs ≠ 0 then regZ (bt (rwOf x.op).regs 2) x.c f.regs else numZ m f x) := (rfl : insZ m f x = _)
  clear ht hm
  unfold Rw.val at HR
  generalize rwOf x.op = r at *
  obtain ⟨r0, r1, r2, r3, r4, r5⟩ := r
  simp only at HR HI
  generalize insZ m f x = z at *
  generalize numZ m f x = nz at *
  generalize knB x.op = kn at *
  unfold Mo.val Fn.val Is.val at HN
  unfold Is.val at HF
  unfold Mo.val Fn.val Is.val
  have hfd := fld_row2
  cases kn
  · have hz : z = 60 := by rw [HI.out]; rfl
    subst hz
    clear HI
    go_enter Tryd.func73, Tryd.ntmps73
    go_wp2_with (go_at_call 79; refine (HK.out _).mono ?_; rintro e w1 ⟨rfl, rfl⟩)
    go_ret
    exact ⟨rfl, hb⟩
  · have hi := HI.out
    rw [if_neg (by decide)] at hi
    have HZ0 : Hid (∀ c, regZ (bt r2 0) x.a f.regs = c → c ≠ 0 → z = c) := fun c h h' => by rw [hi, h, if_pos h']
    have HZ1 : Hid (regZ (bt r2 0) x.a f.regs = 0 → ∀ c, regZ (bt r2 1) x.b f.regs = c → c ≠ 0 → z = c) := fun h0 c h h' => by rw [hi, h0, if_neg (by decide), h, if_pos h']
    have HZ2 : Hid (regZ (bt r2 0) x.a f.regs = 0 → regZ (bt r2 1) x.b f.regs = 0 → ∀ c, regZ (bt r2 2) x.c f.regs = c → c ≠ 0 → z = c) := fun h0 h1 c h h' => by rw [hi, h0, if_neg (by decide), h1, if_neg (by decide), h, if_pos h']
    have HZ3 : Hid (regZ (bt r2 0) x.a f.regs = 0 → regZ (bt r2 1) x.b f.regs = 0 → regZ (bt r2 2) x.c f.regs = 0 → z = nz) := fun h0 h1 h2 => by rw [hi, h0, if_neg (by decide), h1, if_neg (by decide), h2, if_neg (by decide)]
    clear HI hi
    go_enter Tryd.func73, Tryd.ntmps73
    go_wp2_with (first | (go_at_call 79; refine (HK.out _).mono ?_; rintro e w1 ⟨rfl, rfl⟩) | (go_at_call 88; refine HR.out.mono ?_; rintro e w2 ⟨rfl, hb2⟩; replace f0 := cell_kept_below f0 hb2; replace f1 := cell_kept_below f1 hb2; replace f2 := cell_kept_below f2 hb2; replace f3 := cell_kept_below f3 hb2; replace f4 := cell_kept_below f4 hb2; replace m0 := cell_kept_below m0 hb2; replace m1 := cell_kept_below m1 hb2; replace x0 := cell_kept_below x0 hb2; replace x1 := cell_kept_below x1 hb2; replace x2 := cell_kept_below x2 hb2; replace x3 := cell_kept_below x3 hb2; replace x4 := cell_kept_below x4 hb2; replace hb := Below.on hb hb2; clear hb2) | (go_at_call 89; refine (HF.out _).mono ?_; rintro e w3 ⟨rfl, hb3⟩; replace f0 := cell_kept_below f0 hb3; replace f1 := cell_kept_below f1 hb3; replace f2 := cell_kept_below f2 hb3; replace f3 := cell_kept_below f3 hb3; replace f4 := cell_kept_below f4 hb3; replace m0 := cell_kept_below m0 hb3; replace m1 := cell_kept_below m1 hb3; replace x0 := cell_kept_below x0 hb3; replace x1 := cell_kept_below x1 hb3; replace x2 := cell_kept_below x2 hb3; replace x3 := cell_kept_below x3 hb3; replace x4 := cell_kept_below x4 hb3; replace hb := Below.on hb hb3; clear hb3))
    go_loop [21] (fun p => (p = .int .i64 0) ∨ (p = .int .i64 1 ∧ regZ (bt r2 0) x.a f.regs = 0) ∨ (p = .int .i64 2 ∧ regZ (bt r2 0) x.a f.regs = 0 ∧ regZ (bt r2 1) x.b f.regs = 0) ∨ (p = .int .i64 3 ∧ regZ (bt r2 0) x.a f.regs = 0 ∧ regZ (bt r2 1) x.b f.regs = 0 ∧ regZ (bt r2 2) x.c f.regs = 0)) (fun p => 3 - (intOf p).toNat)
    case atStart => exact .inl rfl
    case round =>
    have hi0 := ix_0
    have hi1 := ix_1
    have hi2 := ix_2
    rcases hrel with rfl | ⟨rfl, hz0⟩ | ⟨rfl, hz0, hz1⟩ | ⟨rfl, hz0, hz1, hz2⟩
    · cases hB : bt r2 0
      · have hB' : (bits .and .i64 r2 1 != 0) = false := hB
        by_cases h0 : x.a = 0
        · have hz : regZ false x.a f.regs = 0 := by simp [regZ, h0]
          have hq : (x.a != 0) = false := bne_no h0
          clear h0 hB
          · 
            go_wp2_with fail
            go_round
            case rel => exact .inr (.inl ⟨rfl, hz⟩)
            case measure => simp [intOf]
        · have HE : Hid (z = 62) := HZ0.out  62 (by rw [hB]; simp [regZ, h0]) (by decide)
          have hq : (x.a != 0) = true := bne_of h0
          clear h0 hB
          go_wp2_with fail
          go_ret
          exact ⟨ret_int HE.out.symm, hb⟩
      · have hB' : (bits .and .i64 r2 1 != 0) = true := hB
        by_cases h1 : x.a < 0
        · have HE : Hid (z = 61) := HZ0.out  61 (by rw [hB]; simp [regZ, h1]) (by decide)
          clear hB
          go_wp2_with fail
          go_ret
          exact ⟨ret_int HE.out.symm, hb⟩
        · by_cases h2 : f.regs ≤ x.a
          · have HE : Hid (z = 61) := HZ0.out  61 (by rw [hB]; simp [regZ, h2]) (by decide)
            clear hB
            go_wp2_with fail
            go_ret
            exact ⟨ret_int HE.out.symm, hb⟩
          · have hz : regZ true x.a f.regs = 0 := by simp [regZ, h1, h2]
            clear hB
            go_wp2_with fail
            go_round
            case rel => exact .inr (.inl ⟨rfl, hz⟩)
            case measure => simp [intOf]
    · cases hB : bt r2 1
      · have hB' : (bits .and .i64 r2 2 != 0) = false := hB
        by_cases h0 : x.b = 0
        · have hz : regZ false x.b f.regs = 0 := by simp [regZ, h0]
          have hq : (x.b != 0) = false := bne_no h0
          clear h0 hB
          · 
            go_wp2_with fail
            go_round
            case rel => exact .inr (.inr (.inl ⟨rfl, hz0, hz⟩))
            case measure => simp [intOf]
        · have HE : Hid (z = 62) := HZ1.out hz0 62 (by rw [hB]; simp [regZ, h0]) (by decide)
          have hq : (x.b != 0) = true := bne_of h0
          clear h0 hB
          go_wp2_with fail
          go_ret
          exact ⟨ret_int HE.out.symm, hb⟩
      · have hB' : (bits .and .i64 r2 2 != 0) = true := hB
        by_cases h1 : x.b < 0
        · have HE : Hid (z = 61) := HZ1.out hz0 61 (by rw [hB]; simp [regZ, h1]) (by decide)
          clear hB
          go_wp2_with fail
          go_ret
          exact ⟨ret_int HE.out.symm, hb⟩
        · by_cases h2 : f.regs ≤ x.b
          · have HE : Hid (z = 61) := HZ1.out hz0 61 (by rw [hB]; simp [regZ, h2]) (by decide)
            clear hB
            go_wp2_with fail
            go_ret
            exact ⟨ret_int HE.out.symm, hb⟩
          · have hz : regZ true x.b f.regs = 0 := by simp [regZ, h1, h2]
            clear hB
            go_wp2_with fail
            go_round
            case rel => exact .inr (.inr (.inl ⟨rfl, hz0, hz⟩))
            case measure => simp [intOf]
    · cases hB : bt r2 2
      · have hB' : (bits .and .i64 r2 4 != 0) = false := hB
        by_cases h0 : x.c = 0
        · have hz : regZ false x.c f.regs = 0 := by simp [regZ, h0]
          have hq : (x.c != 0) = false := bne_no h0
          clear h0 hB
          · 
            go_wp2_with fail
            go_round
            case rel => exact .inr (.inr (.inr (⟨rfl, hz0, hz1, hz⟩)))
            case measure => simp [intOf]
        · have HE : Hid (z = 62) := HZ2.out hz0 hz1 62 (by rw [hB]; simp [regZ, h0]) (by decide)
          have hq : (x.c != 0) = true := bne_of h0
          clear h0 hB
          go_wp2_with fail
          go_ret
          exact ⟨ret_int HE.out.symm, hb⟩
      · have hB' : (bits .and .i64 r2 4 != 0) = true := hB
        by_cases h1 : x.c < 0
        · have HE : Hid (z = 61) := HZ2.out hz0 hz1 61 (by rw [hB]; simp [regZ, h1]) (by decide)
          clear hB
          go_wp2_with fail
          go_ret
          exact ⟨ret_int HE.out.symm, hb⟩
        · by_cases h2 : f.regs ≤ x.c
          · have HE : Hid (z = 61) := HZ2.out hz0 hz1 61 (by rw [hB]; simp [regZ, h2]) (by decide)
            clear hB
            go_wp2_with fail
            go_ret
            exact ⟨ret_int HE.out.symm, hb⟩
          · have hz : regZ true x.c f.regs = 0 := by simp [regZ, h1, h2]
            clear hB
            go_wp2_with fail
            go_round
            case rel => exact .inr (.inr (.inr (⟨rfl, hz0, hz1, hz⟩)))
            case measure => simp [intOf]
    · have HE : Hid (z = nz) := HZ3.out hz0 hz1 hz2
      clear hz0 hz1 hz2 HZ0 HZ1 HZ2 HZ3
      go_wp2_with (go_at_call 90; refine (HN.out _ hb).mono ?_; rintro e w4 ⟨rfl, hb4⟩)
      go_ret
      exact ⟨ret_int HE.out.symm, Below.on hb hb4⟩
end Go.Proofs.YtfmkjdfidenfkaaDoor
namespace Go.Proofs.YtfmkjdfidenfkaaDoor
open Go.RowKit Go.Sort

/-- A module and a function in boxes. -/
structure BoxMF (W : World) (g h : Nat) (m : Mo) (f : Fn) : Prop where
  m0 : W.cell? ⟨g, 0, none⟩ = some (.slice m.ta m.ths.length m.tc)
  m1 : W.cell? ⟨g, 1, none⟩ = some (.slice m.fa m.funcs.length m.fc)
  f0 : W.cell? ⟨h, 0, none⟩ = some (.string f.name)
  f1 : W.cell? ⟨h, 1, none⟩ = some (.slice f.pa f.params.length f.pc)
  f2 : W.cell? ⟨h, 2, none⟩ = some (.int .i64 f.regs)
  f3 : W.cell? ⟨h, 3, none⟩ = some (.int .i64 f.words)
  f4 : W.cell? ⟨h, 4, none⟩ = some (.slice f.ca f.code.length f.cc)
theorem BoxMF.stay {W W' : World} {g h : Nat} {m : Mo} {f : Fn} (b : BoxMF W g h m f) (hb : Below W.heap.size W W') : BoxMF W' g h m f :=
  ⟨cell_kept_below b.m0 hb, cell_kept_below b.m1 hb, cell_kept_below b.f0 hb, cell_kept_below b.f1 hb, cell_kept_below b.f2 hb, cell_kept_below b.f3 hb, cell_kept_below b.f4 hb⟩
theorem boxMF_new (w : World) (m : Mo) (f : Fn) : BoxMF ((w.alloc (oM m)).alloc (oF f)) w.heap.size (w.heap.size + 1) m f := by
  have h0 := Below.one (Below.refl _ (w.alloc (oM m))) (oF f)
  have n := fun (j : Nat) (v : Value) h => new_cell (w.alloc (oM m)) #[.string f.name, .slice f.pa f.params.length f.pc, .int .i64 f.regs, .int .i64 f.words, .slice f.ca f.code.length f.cc] 37 j v h
  rw [World.size_alloc] at n
  exact ⟨cell_kept_below (new_cell w _ _ 0 _ rfl) h0, cell_kept_below (new_cell w _ _ 1 _ rfl) h0, n 0 _ rfl, n 1 _ rfl, n 2 _ rfl, n 3 _ rfl, n 4 _ rfl⟩

theorem codeN_end {m : Mo} {f : Fn} {l : List Is} {j : Nat} (h : ¬ j < l.length) : codeN m f (l.drop j) j = (0, 0) := by
  rw [List.drop_eq_nil_of_le (by omega)]; rfl
theorem codeZ_bad {m : Mo} {f : Fn} {e i : Int} (h : codeN m f f.code 0 = (e, i)) (h0 : e ≠ 0) : codeZ m f = (e, i) := by
  unfold codeZ; rw [h]; simp [h0]
theorem codeZ_ok {m : Mo} {f : Fn} (h : codeN m f f.code 0 = (0, 0)) : codeZ m f = if lastOp f = 0 ∨ lastOp f = 14 ∨ lastOp f = 18 then (0, 0) else (64, (f.code.length : Int) - 1) := by
  unfold codeZ; rw [h]; simp
theorem lastOp_at {f : Fn} (h : 0 < f.code.length) : lastOp f = (f.code[f.code.length - 1]'(by omega)).op := by
  unfold lastOp; simp [show f.code.length - 1 < f.code.length by omega]

set_option maxRecDepth 100000 in
set_option maxHeartbeats 4000000 in
theorem checkCode_any (m : Mo) (k : Nat) (w : World) (ht : Tab w) (hm : m.In w) (f : Fn) (hk : m.funcs[k]? = some f) (hlen : 0 < f.code.length) :
    Calls Tryd.prog 44 #[m.val, .int .i64 k] w fun e w' => e = .returned (.tuple #[.int .i64 (codeZ m f).1, .int .i64 (codeZ m f).2]) ∧ Below w.heap.size w w' := by
  obtain ⟨hk1, hk2⟩ := List.getElem?_eq_some_iff.1 hk
  have hb0 := Below.one (Below.refl _ w) (oM m)
  obtain ⟨b, o, ea, c0, c1, c2, c3, c4⟩ := fns_at (hm.2.2.1.stay hb0) hk1
  rw [hk2] at c0 c1 c2 c3 c4
  have hfl := hm.2.2.1.1
  have hfin := hm.2.2.2 f (List.mem_of_getElem? hk)
  have hki : (k : Int) < (m.funcs.length : Int) := by omega
  have hb := Below.one hb0 (oF f)
  have B := boxMF_new w m f
  have HF := Hid.mk' hfin.2.2.2.2.2.1
  have HC : Hid (∀ (x : Is) (w' : World), Below w.heap.size w w' → Calls Tryd.prog 73 #[.agg #[.slice m.ta m.ths.length m.tc, .slice m.fa m.funcs.length m.fc], .agg #[.string f.name, .slice f.pa f.params.length f.pc, .int .i64 f.regs, .int .i64 f.words, .slice f.ca f.code.length f.cc], .agg #[.int .i64 x.op, .int .i64 x.a, .int .i64 x.b, .int .i64 x.c, .int .i64 x.n]] w' fun e w'' => e = .returned (.int .i64 (insZ m f x)) ∧ Below w'.heap.size w' w'') :=
    fun x w' hb => checkIns_any m f x w' (ht.stay hb) (hm.2.2.1.stay hb)
  have HD : Hid (∀ (j : Nat) (x : Is), f.code[j]? = some x → codeN m f (f.code.drop j) j = if insZ m f x ≠ 0 then (insZ m f x, (j : Int)) else codeN m f (f.code.drop (j + 1)) (j + 1)) := fun j x h => by
    obtain ⟨h1, h2⟩ := List.getElem?_eq_some_iff.1 h
    rw [codeN_drop h1, h2]
  have HEN : Hid (∀ j, ¬ j < f.code.length → codeN m f (f.code.drop j) j = (0, 0)) := fun j h => codeN_end h
  have HZB : Hid (∀ e i, codeN m f f.code 0 = (e, i) → e ≠ 0 → codeZ m f = (e, i)) := fun e i => codeZ_bad
  have HZO : Hid (codeN m f f.code 0 = (0, 0) → codeZ m f = if lastOp f = 0 ∨ lastOp f = 14 ∨ lastOp f = 18 then (0, 0) else (64, (f.code.length : Int) - 1)) := codeZ_ok
  have HL := Hid.mk' (lastOp_at hlen)
  have hcl := hfin.2.2.2.2.2.1.1
  have hpos : 1 ≤ f.code.length := hlen
  have hblk : b < w.heap.size := by
    obtain ⟨b', o', e', d0, _⟩ := fns_at hm.2.2.1 hk1
    rw [ea] at e'; cases e'
    exact lt_of_cell d0
  clear ht hm hfin hk hk2 hk1
  generalize codeZ m f = Z at *
  generalize insZ m f = I at *
  generalize codeN m f = CN at *
  generalize lastOp f = lo at *
  obtain ⟨z1, z2⟩ := Z
  unfold oM oF at *
  obtain ⟨b0, b1, b2, b3, b4, b5, b6⟩ := B
  obtain ⟨name, pa, pc, params, regs, words, ca, cc, code⟩ := f
  unfold Mo.val
  simp only at *
  generalize m.fa = fa at *
  subst ea
  generalize m.funcs.length = FL at *
  generalize m.ths.length = TL at *
  generalize m.ta = ta at *
  generalize m.tc = tc at *
  generalize m.fc = fc at *
  go_enter Tryd.func44, Tryd.ntmps44
  go_wp2_with fail
  go_loopw [19] (fun t19 wr => ∃ (j : Nat), j ≤ code.length ∧ t19 = .int .i64 j ∧ CN (code.drop j) j = CN code 0 ∧ Below ((w.alloc (.cells #[.slice ta TL tc, .slice (some ⟨b, o, none⟩) FL fc] 25)).alloc (.cells #[.string name, .slice pa params.length pc, .int .i64 regs, .int .i64 words, .slice ca code.length cc] 37)).heap.size ((w.alloc (.cells #[.slice ta TL tc, .slice (some ⟨b, o, none⟩) FL fc] 25)).alloc (.cells #[.string name, .slice pa params.length pc, .int .i64 regs, .int .i64 words, .slice ca code.length cc] 37)) wr) (fun t19 _ => code.length - (intOf t19).toNat)
  case atStart => exact ⟨0, Nat.zero_le _, rfl, rfl, Below.refl _ _⟩
  case round =>
    obtain ⟨j, hj, rfl, hcnt, hbr⟩ := hrel
    have HCN := Hid.mk' hcnt
    clear hcnt
    have hbw := Below.on hb hbr
    by_cases hlt : j < code.length
    · obtain ⟨b', o', rfl, d0, d1, d2, d3, d4⟩ := iss_at (HF.out.stay hbw) hlt
      have hli : (j : Int) < (code.length : Int) := by omega
      have HDj := Hid.mk' (HD.out j code[j] (by simp [hlt]))
      generalize code[j] = x at *
      have hbx := Below.one hbr (oX x)
      have e0 := cell_kept_below b0 hbx; have e1 := cell_kept_below b1 hbx; have e2 := cell_kept_below b2 hbx; have e3 := cell_kept_below b3 hbx; have e4 := cell_kept_below b4 hbx; have e5 := cell_kept_below b5 hbx; have e6 := cell_kept_below b6 hbx
      have HCx := Hid.mk' (HC.out x _ (Below.on hb hbx))
      clear b0 b1 b2 b3 b4 b5 b6 c0 c1 c2 c3 c4
      by_cases hI : I x = 0
      · rw [hI] at HCx HDj
        go_wp2_with (go_at_call 73; refine HCx.out.mono ?_; rintro e w4 ⟨rfl, hb4⟩)
        go_roundw
        case rel => exact ⟨j + 1, by omega, by go_num, by rw [← HCN.out, HDj.out]; simp, Below.on hbx hb4⟩
        case measure => simp [intOf]; omega
      · have hI' := bne_of hI
        have hz := HZB.out (I x) j (by rw [← HCN.out, HDj.out, if_pos hI]) hI
        obtain ⟨rfl, rfl⟩ := Prod.mk.inj hz
        have HI := Hid.mk' hI
        clear hI hz
        go_wp2_with (go_at_call 73; refine HCx.out.mono ?_; rintro e w4 ⟨rfl, hb4⟩)
        exact bodyPost_ret (v := .tuple #[.int .i64 (I x), .int .i64 j]) (by simp [results, Tryd.results44, go_sem]) rfl ⟨rfl, Below.on (Below.on hb hbx) hb4⟩
    · have hz := HZO.out (by rw [← HCN.out, HEN.out j hlt])
      obtain ⟨n, hn⟩ : ∃ n, code.length = n + 1 := ⟨code.length - 1, by omega⟩
      have hnl : n < code.length := by omega
      obtain ⟨b', o', rfl, d0, d1, d2, d3, d4⟩ := iss_at (HF.out.stay hbw) hnl
      have e6 := cell_kept_below b6 hbr
      have hlo : lo = code[n].op := by rw [HL.out]; congr 2; omega
      rw [← hlo] at d0
      have hli : (n : Int) < (code.length : Int) := by omega
      have hsub : (code.length : Int) - 1 = n := by omega
      have HN := Hid.mk' hn
      rw [hsub] at hz
      clear hn hnl b0 b1 b2 b3 b4 b5 b6 c0 c1 c2 c3 c4 d1 d2 d3 d4 hlo
      by_cases h1 : lo = 0
      · rw [if_pos (.inl h1)] at hz
        obtain ⟨rfl, rfl⟩ := Prod.mk.inj hz
        have q1 : (lo == 0) = true := by simp [h1]
        clear h1 hz
        go_wp2_with fail
        exact bodyPost_ret (v := .tuple #[.int .i64 0, .int .i64 0]) (by simp [results, Tryd.results44, go_sem]) rfl ⟨rfl, hbw⟩
      · have q1 : (lo == 0) = false := beq_no h1
        by_cases h2 : lo = 14
        · rw [if_pos (.inr (.inl h2))] at hz
          obtain ⟨rfl, rfl⟩ := Prod.mk.inj hz
          have q2 : (lo == 14) = true := by simp [h2]
          clear h1 h2 hz
          go_wp2_with fail
          exact bodyPost_ret (v := .tuple #[.int .i64 0, .int .i64 0]) (by simp [results, Tryd.results44, go_sem]) rfl ⟨rfl, hbw⟩
        · have q2 : (lo == 14) = false := beq_no h2
          by_cases h3 : lo = 18
          · rw [if_pos (.inr (.inr h3))] at hz
            obtain ⟨rfl, rfl⟩ := Prod.mk.inj hz
            have q3 : (lo == 18) = true := by simp [h3]
            clear h1 h2 h3 hz
            go_wp2_with fail
            exact bodyPost_ret (v := .tuple #[.int .i64 0, .int .i64 0]) (by simp [results, Tryd.results44, go_sem]) rfl ⟨rfl, hbw⟩
          · rw [if_neg (by simp [h1, h2, h3])] at hz
            obtain ⟨rfl, rfl⟩ := Prod.mk.inj hz
            have q3 : (lo == 18) = false := beq_no h3
            clear h1 h2 h3 hz
            go_wp2_with fail
            exact bodyPost_ret (v := .tuple #[.int .i64 64, .int .i64 n]) (by simp [results, Tryd.results44, go_sem]) rfl ⟨rfl, hbw⟩
end Go.Proofs.YtfmkjdfidenfkaaDoor
