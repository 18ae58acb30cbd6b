/- loops.drives: does an instruction write a count or its bound. -/
import Derived.Test.YtgiokognngllcaaDoorTc
import Derived.Test.YtgiokognngllcaaDoorGgaa
namespace Go.Proofs.YtgiokognngllcaaDoor
open Go.RowKit Go.Sort

def drvV (x hd : Is) (bk : Bool) : Bool := decide (0 ≤ wrN x) && (decide (wrN x = hd.b) || decide (wrN x = hd.a) && !bk)
theorem drvB_V (l : List Is) (h : Nat) (bs : List Nat) (v : Nat) : drvB l h bs v = drvV (opA l v) (opA l h) (decide (v ∈ bs)) := rfl
theorem eq_beq (a b : Int) : (a == b) = decide (a = b) := by rw [Bool.eq_iff_iff, beq_iff_eq, decide_eq_true_eq]
set_option maxHeartbeats 2000000 in
theorem ldrives_any (x hd : Is) (bk : Bool) (w : World) (ht : Tab w) : Calls Tryd.prog 42 #[x.val, hd.val, .bool bk] w fun e w' => e = .returned (.bool (drvV x hd bk)) ∧ Below w.heap.size w w' := by
  have HB1 := Hid.mk' (Below.one (Below.refl w.heap.size w) (.cells #[.int .i64 x.op, .int .i64 x.a, .int .i64 x.b, .int .i64 x.c, .int .i64 x.n] 52))
  have HB2 := Hid.mk' (Below.one HB1.out (.cells #[.int .i64 hd.op, .int .i64 hd.a, .int .i64 hd.b, .int .i64 hd.c, .int .i64 hd.n] 52))
  have HW := Hid.mk' (writes_any x _ (ht.stay HB2.out))
  have HV : Hid (drvV x hd bk = (decide (0 ≤ wrN x) && (decide (wrN x = hd.b) || decide (wrN x = hd.a) && !bk))) := (rfl : drvV x hd bk = _)
  have hx1 := heap_alloc_new (w.alloc (.cells #[.int .i64 x.op, .int .i64 x.a, .int .i64 x.b, .int .i64 x.c, .int .i64 x.n] 52)) (.cells #[.int .i64 hd.op, .int .i64 hd.a, .int .i64 hd.b, .int .i64 hd.c, .int .i64 hd.n] 52)
  rw [World.size_alloc] at hx1
  have c1 := cell_of_obj hx1 (j := 1) (v := .int .i64 hd.a) rfl
  have c2 := cell_of_obj hx1 (j := 2) (v := .int .i64 hd.b) rfl
  unfold Is.val at *
  clear ht hx1
  generalize drvV x hd bk = r at *
  generalize wrN x = z at *
  by_cases hz : 0 ≤ z
  · have HZ := Hid.mk' hz
    have hz2 : ¬ z < 0 := by omega
    cases hb : decide (z = hd.b)
    · have hq : (z == hd.b) = false := by rw [eq_beq]; exact hb
      cases ha : decide (z = hd.a)
      · have hq2 : (z == hd.a) = false := by rw [eq_beq]; exact ha
        have HR : Hid (r = false) := (by rw [HV.out, hb, ha]; simp : r = false)
        clear hz hb ha HV
        go_enter Tryd.func42, Tryd.ntmps42
        go_wp2_with (go_at_call 57; refine HW.out.mono ?_; rintro e w1 ⟨rfl, hb1⟩; have d1 := cell_kept_below c1 hb1; have d2 := cell_kept_below c2 hb1; have HB3 := Hid.mk' (Below.on HB2.out hb1); clear hb1)
        go_ret
        exact ⟨ret_bool HR.out.symm, HB3.out⟩
      · have hq2 : (z == hd.a) = true := by rw [eq_beq]; exact ha
        have HR : Hid (r = !bk) := (by rw [HV.out, hb, ha, decide_eq_true HZ.out]; simp : r = !bk)
        clear hz hb ha HV
        go_enter Tryd.func42, Tryd.ntmps42
        go_wp2_with (go_at_call 57; refine HW.out.mono ?_; rintro e w1 ⟨rfl, hb1⟩; have d1 := cell_kept_below c1 hb1; have d2 := cell_kept_below c2 hb1; have HB3 := Hid.mk' (Below.on HB2.out hb1); clear hb1)
        go_ret
        exact ⟨ret_bool HR.out.symm, HB3.out⟩
    · have hq : (z == hd.b) = true := by rw [eq_beq]; exact hb
      have HR : Hid (r = true) := (by rw [HV.out, hb, decide_eq_true HZ.out]; simp : r = true)
      clear hz hb HV
      go_enter Tryd.func42, Tryd.ntmps42
      go_wp2_with (go_at_call 57; refine HW.out.mono ?_; rintro e w1 ⟨rfl, hb1⟩; have d1 := cell_kept_below c1 hb1; have d2 := cell_kept_below c2 hb1; have HB3 := Hid.mk' (Below.on HB2.out hb1); clear hb1)
      go_ret
      exact ⟨ret_bool HR.out.symm, HB3.out⟩
  · have hz2 : z < 0 := by omega
    have HR : Hid (r = false) := (by rw [HV.out, decide_eq_false hz]; simp : r = false)
    clear hz HV
    go_enter Tryd.func42, Tryd.ntmps42
    go_wp2_with (go_at_call 57; refine HW.out.mono ?_; rintro e w1 ⟨rfl, hb1⟩; have d1 := cell_kept_below c1 hb1; have d2 := cell_kept_below c2 hb1; have HB3 := Hid.mk' (Below.on HB2.out hb1); clear hb1)
    go_ret
    exact ⟨ret_bool HR.out.symm, HB3.out⟩
end Go.Proofs.YtgiokognngllcaaDoor
