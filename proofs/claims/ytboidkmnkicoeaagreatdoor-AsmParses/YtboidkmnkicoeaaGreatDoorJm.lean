/- The document's own word on an instruction: spoilt. -/
import Derived.Test.YtboidkmnkicoeaaGreatDoorCb
import Derived.Test.YtboidkmnkicoeaaGreatDoorCg
namespace Go.Proofs.YtboidkmnkicoeaaGreatDoor
open Go.RowKit Go.Sort

set_option maxRecDepth 100000 in
set_option maxHeartbeats 2000000 in
theorem spoilt_reg (m : Mo) (f : Fn) (x : Is) (w : World) (hm : Fns w m.fa m.funcs) (h0 h1 h2 h3 : Bool) (tg : Bool)
    (HK : Hid (∀ w, Calls Tryz.prog 66 #[.int .i64 x.op] w fun e w' => e = .returned (.bool true) ∧ w' = w))
    (HH : Hid (∀ w, Calls Tryz.prog 34 #[.int .i64 x.op] w fun e w' => e = .returned (.agg #[.bool h0, .bool h1, .bool h2, .bool h3]) ∧ Below w.heap.size w w'))
    (HG : Hid (∀ (has : Bool) (r regs : Int) (w : World), Calls Tryz.prog 67 #[.bool has, .int .i64 r, .int .i64 regs] w fun e w' => e = .returned (.int .i64 (regZ has r regs)) ∧ w' = w))
    (_HT : Hid (∀ w, Calls Tryz.prog 68 #[.int .i64 x.op] w fun e w' => e = .returned (.bool tg) ∧ w' = w)) (z : Int)
    (hz : (regZ h0 x.a f.regs = z ∧ z ≠ 0) ∨ (regZ h0 x.a f.regs = 0 ∧ regZ h1 x.b f.regs = z ∧ z ≠ 0) ∨ (regZ h0 x.a f.regs = 0 ∧ regZ h1 x.b f.regs = 0 ∧ regZ h2 x.c f.regs = z ∧ z ≠ 0)) :
    Calls Tryz.prog 48 #[m.val, f.val, x.val] w fun e w' => e = .returned (.int .i64 z) ∧ Below w.heap.size w w' := by
  have hb := below3 w (oM m) (oF f) (oX x)
  have HM := Hid.mk' (hm.stay hb)
  have hcl := hm.1
  have m1 := cell_m (w := w) (m := m) (b := oF f) (c := oX x) (j := 1) (v := .slice m.fa m.funcs.length m.fc) rfl
  have f2 := cell_f (w := w) (a := oM m) (f := f) (c := oX x) (j := 2) (v := .int .i64 f.regs) rfl
  have f4 := cell_f (w := w) (a := oM m) (f := f) (c := oX x) (j := 4) (v := .slice f.ca f.code.length f.cc) rfl
  have x0 := cell_x (w := w) (a := oM m) (b := oF f) (x := x) (j := 0) (v := .int .i64 x.op) rfl
  have x1 := cell_x (w := w) (a := oM m) (b := oF f) (x := x) (j := 1) (v := .int .i64 x.a) rfl
  have x2 := cell_x (w := w) (a := oM m) (b := oF f) (x := x) (j := 2) (v := .int .i64 x.b) rfl
  have x3 := cell_x (w := w) (a := oM m) (b := oF f) (x := x) (j := 3) (v := .int .i64 x.c) rfl
  have x4 := cell_x (w := w) (a := oM m) (b := oF f) (x := x) (j := 4) (v := .int .i64 x.n) rfl
  unfold Mo.val Fn.val Is.val
  rcases hz with ⟨q0, hne⟩ | ⟨q0, q1, hne⟩ | ⟨q0, q1, q2, hne⟩
  all_goals
    have hq := bne_of hne
    clear hne
    go_enter Tryz.func48, Tryz.ntmps48
    go_wp2_with (first | (go_at_call 66; refine (HK.out _).mono ?_; rintro e w1 ⟨rfl, rfl⟩) | (go_at_call 34; refine (HH.out _).mono ?_; rintro e w2 ⟨rfl, hb2⟩; have m1' := fun o => cell_kept_below m1 (Below.one hb2 o); have f2' := fun o => cell_kept_below f2 (Below.one hb2 o); have f4' := fun o => cell_kept_below f4 (Below.one hb2 o); have x0' := fun o => cell_kept_below x0 (Below.one hb2 o); have x1' := fun o => cell_kept_below x1 (Below.one hb2 o); have x2' := fun o => cell_kept_below x2 (Below.one hb2 o); have x3' := fun o => cell_kept_below x3 (Below.one hb2 o); have x4' := fun o => cell_kept_below x4 (Below.one hb2 o); have hbb := fun o => Below.one (Below.on hb hb2) o) | (go_at_call 67; refine (HG.out _ _ _ _).mono ?_; rintro e w3 ⟨rfl, rfl⟩))
    go_ret
    exact ⟨rfl, hbb _⟩

set_option maxRecDepth 100000 in
set_option maxHeartbeats 2000000 in
theorem spoilt_num (m : Mo) (f : Fn) (x : Is) (w : World) (hm : Fns w m.fa m.funcs) (h0 h1 h2 h3 : Bool) (tg : Bool)
    (HK : Hid (∀ w, Calls Tryz.prog 66 #[.int .i64 x.op] w fun e w' => e = .returned (.bool true) ∧ w' = w))
    (HH : Hid (∀ w, Calls Tryz.prog 34 #[.int .i64 x.op] w fun e w' => e = .returned (.agg #[.bool h0, .bool h1, .bool h2, .bool h3]) ∧ Below w.heap.size w w'))
    (HG : Hid (∀ (has : Bool) (r regs : Int) (w : World), Calls Tryz.prog 67 #[.bool has, .int .i64 r, .int .i64 regs] w fun e w' => e = .returned (.int .i64 (regZ has r regs)) ∧ w' = w))
    (HT : Hid (∀ w, Calls Tryz.prog 68 #[.int .i64 x.op] w fun e w' => e = .returned (.bool tg) ∧ w' = w)) (z : Int) (q0 : regZ h0 x.a f.regs = 0) (q1 : regZ h1 x.b f.regs = 0) (q2 : regZ h2 x.c f.regs = 0)
    (hz : (h3 = false ∧ x.n ≠ 0 ∧ z = 62) ∨ (h3 = true ∧ tg = true ∧ ((x.n < 0 ∨ (¬ x.n < 0 ∧ (f.code.length : Int) ≤ x.n)) ∧ z = 63)) ∨
      (h3 = true ∧ tg = false ∧ (x.op == 13) = true ∧ ((x.n < 1 ∨ (¬ x.n < 1 ∧ 4096 < x.n)) ∧ z = 2))) :
    Calls Tryz.prog 48 #[m.val, f.val, x.val] w fun e w' => e = .returned (.int .i64 z) ∧ Below w.heap.size w w' := by
  have hb := below3 w (oM m) (oF f) (oX x)
  have HM := Hid.mk' (hm.stay hb)
  have hcl := hm.1
  have m1 := cell_m (w := w) (m := m) (b := oF f) (c := oX x) (j := 1) (v := .slice m.fa m.funcs.length m.fc) rfl
  have f2 := cell_f (w := w) (a := oM m) (f := f) (c := oX x) (j := 2) (v := .int .i64 f.regs) rfl
  have f4 := cell_f (w := w) (a := oM m) (f := f) (c := oX x) (j := 4) (v := .slice f.ca f.code.length f.cc) rfl
  have x0 := cell_x (w := w) (a := oM m) (b := oF f) (x := x) (j := 0) (v := .int .i64 x.op) rfl
  have x1 := cell_x (w := w) (a := oM m) (b := oF f) (x := x) (j := 1) (v := .int .i64 x.a) rfl
  have x2 := cell_x (w := w) (a := oM m) (b := oF f) (x := x) (j := 2) (v := .int .i64 x.b) rfl
  have x3 := cell_x (w := w) (a := oM m) (b := oF f) (x := x) (j := 3) (v := .int .i64 x.c) rfl
  have x4 := cell_x (w := w) (a := oM m) (b := oF f) (x := x) (j := 4) (v := .int .i64 x.n) rfl
  unfold Mo.val Fn.val Is.val
  rcases hz with ⟨rfl, hne, rfl⟩ | ⟨rfl, rfl, (hn | ⟨hn1, hn2⟩), rfl⟩ | ⟨rfl, rfl, hop, (hn | ⟨hn1, hn2⟩), rfl⟩
  · have hq := bne_of hne
    clear hne
    go_enter Tryz.func48, Tryz.ntmps48
    go_wp2_with (first | (go_at_call 66; refine (HK.out _).mono ?_; rintro e w1 ⟨rfl, rfl⟩) | (go_at_call 34; refine (HH.out _).mono ?_; rintro e w2 ⟨rfl, hb2⟩; have m1' := fun o => cell_kept_below m1 (Below.one hb2 o); have f2' := fun o => cell_kept_below f2 (Below.one hb2 o); have f4' := fun o => cell_kept_below f4 (Below.one hb2 o); have x0' := fun o => cell_kept_below x0 (Below.one hb2 o); have x1' := fun o => cell_kept_below x1 (Below.one hb2 o); have x2' := fun o => cell_kept_below x2 (Below.one hb2 o); have x3' := fun o => cell_kept_below x3 (Below.one hb2 o); have x4' := fun o => cell_kept_below x4 (Below.one hb2 o); have hbb := fun o => Below.one (Below.on hb hb2) o) | (go_at_call 67; refine (HG.out _ _ _ _).mono ?_; rintro e w3 ⟨rfl, rfl⟩) | (go_at_call 68; refine (HT.out _).mono ?_; rintro e w4 ⟨rfl, rfl⟩))
    go_ret
    exact ⟨rfl, hbb _⟩
  · 
    go_enter Tryz.func48, Tryz.ntmps48
    go_wp2_with (first | (go_at_call 66; refine (HK.out _).mono ?_; rintro e w1 ⟨rfl, rfl⟩) | (go_at_call 34; refine (HH.out _).mono ?_; rintro e w2 ⟨rfl, hb2⟩; have m1' := fun o => cell_kept_below m1 (Below.one hb2 o); have f2' := fun o => cell_kept_below f2 (Below.one hb2 o); have f4' := fun o => cell_kept_below f4 (Below.one hb2 o); have x0' := fun o => cell_kept_below x0 (Below.one hb2 o); have x1' := fun o => cell_kept_below x1 (Below.one hb2 o); have x2' := fun o => cell_kept_below x2 (Below.one hb2 o); have x3' := fun o => cell_kept_below x3 (Below.one hb2 o); have x4' := fun o => cell_kept_below x4 (Below.one hb2 o); have hbb := fun o => Below.one (Below.on hb hb2) o) | (go_at_call 67; refine (HG.out _ _ _ _).mono ?_; rintro e w3 ⟨rfl, rfl⟩) | (go_at_call 68; refine (HT.out _).mono ?_; rintro e w4 ⟨rfl, rfl⟩))
    go_ret
    exact ⟨rfl, hbb _⟩
  · 
    go_enter Tryz.func48, Tryz.ntmps48
    go_wp2_with (first | (go_at_call 66; refine (HK.out _).mono ?_; rintro e w1 ⟨rfl, rfl⟩) | (go_at_call 34; refine (HH.out _).mono ?_; rintro e w2 ⟨rfl, hb2⟩; have m1' := fun o => cell_kept_below m1 (Below.one hb2 o); have f2' := fun o => cell_kept_below f2 (Below.one hb2 o); have f4' := fun o => cell_kept_below f4 (Below.one hb2 o); have x0' := fun o => cell_kept_below x0 (Below.one hb2 o); have x1' := fun o => cell_kept_below x1 (Below.one hb2 o); have x2' := fun o => cell_kept_below x2 (Below.one hb2 o); have x3' := fun o => cell_kept_below x3 (Below.one hb2 o); have x4' := fun o => cell_kept_below x4 (Below.one hb2 o); have hbb := fun o => Below.one (Below.on hb hb2) o) | (go_at_call 67; refine (HG.out _ _ _ _).mono ?_; rintro e w3 ⟨rfl, rfl⟩) | (go_at_call 68; refine (HT.out _).mono ?_; rintro e w4 ⟨rfl, rfl⟩))
    go_ret
    exact ⟨rfl, hbb _⟩
  · 
    go_enter Tryz.func48, Tryz.ntmps48
    go_wp2_with (first | (go_at_call 66; refine (HK.out _).mono ?_; rintro e w1 ⟨rfl, rfl⟩) | (go_at_call 34; refine (HH.out _).mono ?_; rintro e w2 ⟨rfl, hb2⟩; have m1' := fun o => cell_kept_below m1 (Below.one hb2 o); have f2' := fun o => cell_kept_below f2 (Below.one hb2 o); have f4' := fun o => cell_kept_below f4 (Below.one hb2 o); have x0' := fun o => cell_kept_below x0 (Below.one hb2 o); have x1' := fun o => cell_kept_below x1 (Below.one hb2 o); have x2' := fun o => cell_kept_below x2 (Below.one hb2 o); have x3' := fun o => cell_kept_below x3 (Below.one hb2 o); have x4' := fun o => cell_kept_below x4 (Below.one hb2 o); have hbb := fun o => Below.one (Below.on hb hb2) o) | (go_at_call 67; refine (HG.out _ _ _ _).mono ?_; rintro e w3 ⟨rfl, rfl⟩) | (go_at_call 68; refine (HT.out _).mono ?_; rintro e w4 ⟨rfl, rfl⟩))
    go_ret
    exact ⟨rfl, hbb _⟩
  · 
    go_enter Tryz.func48, Tryz.ntmps48
    go_wp2_with (first | (go_at_call 66; refine (HK.out _).mono ?_; rintro e w1 ⟨rfl, rfl⟩) | (go_at_call 34; refine (HH.out _).mono ?_; rintro e w2 ⟨rfl, hb2⟩; have m1' := fun o => cell_kept_below m1 (Below.one hb2 o); have f2' := fun o => cell_kept_below f2 (Below.one hb2 o); have f4' := fun o => cell_kept_below f4 (Below.one hb2 o); have x0' := fun o => cell_kept_below x0 (Below.one hb2 o); have x1' := fun o => cell_kept_below x1 (Below.one hb2 o); have x2' := fun o => cell_kept_below x2 (Below.one hb2 o); have x3' := fun o => cell_kept_below x3 (Below.one hb2 o); have x4' := fun o => cell_kept_below x4 (Below.one hb2 o); have hbb := fun o => Below.one (Below.on hb hb2) o) | (go_at_call 67; refine (HG.out _ _ _ _).mono ?_; rintro e w3 ⟨rfl, rfl⟩) | (go_at_call 68; refine (HT.out _).mono ?_; rintro e w4 ⟨rfl, rfl⟩))
    go_ret
    exact ⟨rfl, hbb _⟩

set_option maxRecDepth 100000 in
set_option maxHeartbeats 2000000 in
theorem spoilt_ok (m : Mo) (f : Fn) (x : Is) (w : World) (hm : Fns w m.fa m.funcs) (h0 h1 h2 h3 : Bool) (tg : Bool)
    (HK : Hid (∀ w, Calls Tryz.prog 66 #[.int .i64 x.op] w fun e w' => e = .returned (.bool true) ∧ w' = w))
    (HH : Hid (∀ w, Calls Tryz.prog 34 #[.int .i64 x.op] w fun e w' => e = .returned (.agg #[.bool h0, .bool h1, .bool h2, .bool h3]) ∧ Below w.heap.size w w'))
    (HG : Hid (∀ (has : Bool) (r regs : Int) (w : World), Calls Tryz.prog 67 #[.bool has, .int .i64 r, .int .i64 regs] w fun e w' => e = .returned (.int .i64 (regZ has r regs)) ∧ w' = w))
    (HT : Hid (∀ w, Calls Tryz.prog 68 #[.int .i64 x.op] w fun e w' => e = .returned (.bool tg) ∧ w' = w)) (q0 : regZ h0 x.a f.regs = 0) (q1 : regZ h1 x.b f.regs = 0) (q2 : regZ h2 x.c f.regs = 0) (hop : (x.op == 19) = false)
    (hz : (h3 = false ∧ tg = false ∧ (x.op == 13) = false ∧ x.n = 0) ∨ (h3 = true ∧ tg = false ∧ (x.op == 13) = false) ∨ (h3 = true ∧ tg = true ∧ (x.op == 13) = false ∧ ¬ x.n < 0 ∧ ¬ (f.code.length : Int) ≤ x.n) ∨
      (h3 = true ∧ tg = false ∧ (x.op == 13) = true ∧ ¬ x.n < 1 ∧ ¬ 4096 < x.n)) :
    Calls Tryz.prog 48 #[m.val, f.val, x.val] w fun e w' => e = .returned (.int .i64 0) ∧ Below w.heap.size w w' := by
  have hb := below3 w (oM m) (oF f) (oX x)
  have HM := Hid.mk' (hm.stay hb)
  have hcl := hm.1
  have m1 := cell_m (w := w) (m := m) (b := oF f) (c := oX x) (j := 1) (v := .slice m.fa m.funcs.length m.fc) rfl
  have f2 := cell_f (w := w) (a := oM m) (f := f) (c := oX x) (j := 2) (v := .int .i64 f.regs) rfl
  have f4 := cell_f (w := w) (a := oM m) (f := f) (c := oX x) (j := 4) (v := .slice f.ca f.code.length f.cc) rfl
  have x0 := cell_x (w := w) (a := oM m) (b := oF f) (x := x) (j := 0) (v := .int .i64 x.op) rfl
  have x1 := cell_x (w := w) (a := oM m) (b := oF f) (x := x) (j := 1) (v := .int .i64 x.a) rfl
  have x2 := cell_x (w := w) (a := oM m) (b := oF f) (x := x) (j := 2) (v := .int .i64 x.b) rfl
  have x3 := cell_x (w := w) (a := oM m) (b := oF f) (x := x) (j := 3) (v := .int .i64 x.c) rfl
  have x4 := cell_x (w := w) (a := oM m) (b := oF f) (x := x) (j := 4) (v := .int .i64 x.n) rfl
  unfold Mo.val Fn.val Is.val
  rcases hz with ⟨rfl, rfl, hc, hn⟩ | ⟨rfl, rfl, hc⟩ | ⟨rfl, rfl, hc, hn1, hn2⟩ | ⟨rfl, rfl, hc, hn1, hn2⟩
  · have hq := bne_no hn
    clear hn
    go_enter Tryz.func48, Tryz.ntmps48
    go_upto_region 19 with (first | (go_at_call 66; refine (HK.out _).mono ?_; rintro e w1 ⟨rfl, rfl⟩) | (go_at_call 34; refine (HH.out _).mono ?_; rintro e w2 ⟨rfl, hb2⟩; have m1' := fun o => cell_kept_below m1 (Below.one hb2 o); have f2' := fun o => cell_kept_below f2 (Below.one hb2 o); have f4' := fun o => cell_kept_below f4 (Below.one hb2 o); have x0' := fun o => cell_kept_below x0 (Below.one hb2 o); have x1' := fun o => cell_kept_below x1 (Below.one hb2 o); have x2' := fun o => cell_kept_below x2 (Below.one hb2 o); have x3' := fun o => cell_kept_below x3 (Below.one hb2 o); have x4' := fun o => cell_kept_below x4 (Below.one hb2 o); have hbb := fun o => Below.one (Below.on hb hb2) o) | (go_at_call 67; refine (HG.out _ _ _ _).mono ?_; rintro e w3 ⟨rfl, rfl⟩) | (go_at_call 68; refine (HT.out _).mono ?_; rintro e w4 ⟨rfl, rfl⟩))
    replace x0' := fun o d os => cell_regrown (x0' o) d os
    refine wp_region_quiet_below (by kernel_rfl) (by kernel_rfl) ?_
    repeat (go_big_quiet_step (fail))
    refine wpQuiet_nil ?_
    rintro _ ⟨⟨dq, osq⟩, rfl⟩
    clear m1' f2' f4' x0' x1' x2' x3' x4'
    go_wp2_with fail
    go_ret
    exact ⟨rfl, Below.on (hbb _) (below_regrown _ dq osq)⟩
  · 
    go_enter Tryz.func48, Tryz.ntmps48
    go_upto_region 19 with (first | (go_at_call 66; refine (HK.out _).mono ?_; rintro e w1 ⟨rfl, rfl⟩) | (go_at_call 34; refine (HH.out _).mono ?_; rintro e w2 ⟨rfl, hb2⟩; have m1' := fun o => cell_kept_below m1 (Below.one hb2 o); have f2' := fun o => cell_kept_below f2 (Below.one hb2 o); have f4' := fun o => cell_kept_below f4 (Below.one hb2 o); have x0' := fun o => cell_kept_below x0 (Below.one hb2 o); have x1' := fun o => cell_kept_below x1 (Below.one hb2 o); have x2' := fun o => cell_kept_below x2 (Below.one hb2 o); have x3' := fun o => cell_kept_below x3 (Below.one hb2 o); have x4' := fun o => cell_kept_below x4 (Below.one hb2 o); have hbb := fun o => Below.one (Below.on hb hb2) o) | (go_at_call 67; refine (HG.out _ _ _ _).mono ?_; rintro e w3 ⟨rfl, rfl⟩) | (go_at_call 68; refine (HT.out _).mono ?_; rintro e w4 ⟨rfl, rfl⟩))
    replace x0' := fun o d os => cell_regrown (x0' o) d os
    refine wp_region_quiet_below (by kernel_rfl) (by kernel_rfl) ?_
    repeat (go_big_quiet_step (fail))
    refine wpQuiet_nil ?_
    rintro _ ⟨⟨dq, osq⟩, rfl⟩
    clear m1' f2' f4' x0' x1' x2' x3' x4'
    go_wp2_with fail
    go_ret
    exact ⟨rfl, Below.on (hbb _) (below_regrown _ dq osq)⟩
  · 
    go_enter Tryz.func48, Tryz.ntmps48
    go_upto_region 19 with (first | (go_at_call 66; refine (HK.out _).mono ?_; rintro e w1 ⟨rfl, rfl⟩) | (go_at_call 34; refine (HH.out _).mono ?_; rintro e w2 ⟨rfl, hb2⟩; have m1' := fun o => cell_kept_below m1 (Below.one hb2 o); have f2' := fun o => cell_kept_below f2 (Below.one hb2 o); have f4' := fun o => cell_kept_below f4 (Below.one hb2 o); have x0' := fun o => cell_kept_below x0 (Below.one hb2 o); have x1' := fun o => cell_kept_below x1 (Below.one hb2 o); have x2' := fun o => cell_kept_below x2 (Below.one hb2 o); have x3' := fun o => cell_kept_below x3 (Below.one hb2 o); have x4' := fun o => cell_kept_below x4 (Below.one hb2 o); have hbb := fun o => Below.one (Below.on hb hb2) o) | (go_at_call 67; refine (HG.out _ _ _ _).mono ?_; rintro e w3 ⟨rfl, rfl⟩) | (go_at_call 68; refine (HT.out _).mono ?_; rintro e w4 ⟨rfl, rfl⟩))
    replace x0' := fun o d os => cell_regrown (x0' o) d os
    refine wp_region_quiet_below (by kernel_rfl) (by kernel_rfl) ?_
    repeat (go_big_quiet_step (fail))
    refine wpQuiet_nil ?_
    rintro _ ⟨⟨dq, osq⟩, rfl⟩
    clear m1' f2' f4' x0' x1' x2' x3' x4'
    go_wp2_with fail
    go_ret
    exact ⟨rfl, Below.on (hbb _) (below_regrown _ dq osq)⟩
  · 
    go_enter Tryz.func48, Tryz.ntmps48
    go_upto_region 19 with (first | (go_at_call 66; refine (HK.out _).mono ?_; rintro e w1 ⟨rfl, rfl⟩) | (go_at_call 34; refine (HH.out _).mono ?_; rintro e w2 ⟨rfl, hb2⟩; have m1' := fun o => cell_kept_below m1 (Below.one hb2 o); have f2' := fun o => cell_kept_below f2 (Below.one hb2 o); have f4' := fun o => cell_kept_below f4 (Below.one hb2 o); have x0' := fun o => cell_kept_below x0 (Below.one hb2 o); have x1' := fun o => cell_kept_below x1 (Below.one hb2 o); have x2' := fun o => cell_kept_below x2 (Below.one hb2 o); have x3' := fun o => cell_kept_below x3 (Below.one hb2 o); have x4' := fun o => cell_kept_below x4 (Below.one hb2 o); have hbb := fun o => Below.one (Below.on hb hb2) o) | (go_at_call 67; refine (HG.out _ _ _ _).mono ?_; rintro e w3 ⟨rfl, rfl⟩) | (go_at_call 68; refine (HT.out _).mono ?_; rintro e w4 ⟨rfl, rfl⟩))
    replace x0' := fun o d os => cell_regrown (x0' o) d os
    refine wp_region_quiet_below (by kernel_rfl) (by kernel_rfl) ?_
    repeat (go_big_quiet_step (fail))
    refine wpQuiet_nil ?_
    rintro _ ⟨⟨dq, osq⟩, rfl⟩
    clear m1' f2' f4' x0' x1' x2' x3' x4'
    go_wp2_with fail
    go_ret
    exact ⟨rfl, Below.on (hbb _) (below_regrown _ dq osq)⟩

set_option maxRecDepth 100000 in
set_option maxHeartbeats 2000000 in
theorem spoilt_call (m : Mo) (f : Fn) (x : Is) (w : World) (hm : Fns w m.fa m.funcs) (h0 h1 h2 h3 : Bool) (tg : Bool)
    (HK : Hid (∀ w, Calls Tryz.prog 66 #[.int .i64 x.op] w fun e w' => e = .returned (.bool true) ∧ w' = w))
    (HH : Hid (∀ w, Calls Tryz.prog 34 #[.int .i64 x.op] w fun e w' => e = .returned (.agg #[.bool h0, .bool h1, .bool h2, .bool h3]) ∧ Below w.heap.size w w'))
    (HG : Hid (∀ (has : Bool) (r regs : Int) (w : World), Calls Tryz.prog 67 #[.bool has, .int .i64 r, .int .i64 regs] w fun e w' => e = .returned (.int .i64 (regZ has r regs)) ∧ w' = w))
    (HT : Hid (∀ w, Calls Tryz.prog 68 #[.int .i64 x.op] w fun e w' => e = .returned (.bool tg) ∧ w' = w)) (q0 : regZ h0 x.a f.regs = 0) (q1 : regZ h1 x.b f.regs = 0) (q2 : regZ h2 x.c f.regs = 0) (hop : (x.op == 19) = true) (hc : (x.op == 13) = false) (hh : h3 = true) (htg : tg = false) :
    Calls Tryz.prog 48 #[m.val, f.val, x.val] w fun e w' => e = .returned (.int .i64 (callZ m f x)) ∧ Below w.heap.size w w' := by
  subst hh htg
  have HZ : Hid (callZ m f x = if x.n < 0 ∨ x.n ≥ m.funcs.length ∨ wrap64 (x.b + parN m x.n) > f.regs then 65 else 0) := (rfl : callZ m f x = _)
  generalize callZ m f x = z at *
  have hb := below3 w (oM m) (oF f) (oX x)
  have HM := Hid.mk' (hm.stay hb)
  have hcl := hm.1
  have m1 := cell_m (w := w) (m := m) (b := oF f) (c := oX x) (j := 1) (v := .slice m.fa m.funcs.length m.fc) rfl
  have f2 := cell_f (w := w) (a := oM m) (f := f) (c := oX x) (j := 2) (v := .int .i64 f.regs) rfl
  have f4 := cell_f (w := w) (a := oM m) (f := f) (c := oX x) (j := 4) (v := .slice f.ca f.code.length f.cc) rfl
  have x0 := cell_x (w := w) (a := oM m) (b := oF f) (x := x) (j := 0) (v := .int .i64 x.op) rfl
  have x1 := cell_x (w := w) (a := oM m) (b := oF f) (x := x) (j := 1) (v := .int .i64 x.a) rfl
  have x2 := cell_x (w := w) (a := oM m) (b := oF f) (x := x) (j := 2) (v := .int .i64 x.b) rfl
  have x3 := cell_x (w := w) (a := oM m) (b := oF f) (x := x) (j := 3) (v := .int .i64 x.c) rfl
  have x4 := cell_x (w := w) (a := oM m) (b := oF f) (x := x) (j := 4) (v := .int .i64 x.n) rfl
  unfold Mo.val Fn.val Is.val
  by_cases g0 : x.n < 0
  · have hz := HZ.out
    simp [g0] at hz
    subst hz
    clear HZ
    have d0 : decide (x.n < 0) = true := decide_eq_true g0
    go_enter Tryz.func48, Tryz.ntmps48
    go_upto_region 19 with (first | (go_at_call 66; refine (HK.out _).mono ?_; rintro e w1 ⟨rfl, rfl⟩) | (go_at_call 34; refine (HH.out _).mono ?_; rintro e w2 ⟨rfl, hb2⟩; have m1' := fun o => cell_kept_below m1 (Below.one hb2 o); have f2' := fun o => cell_kept_below f2 (Below.one hb2 o); have f4' := fun o => cell_kept_below f4 (Below.one hb2 o); have x0' := fun o => cell_kept_below x0 (Below.one hb2 o); have x1' := fun o => cell_kept_below x1 (Below.one hb2 o); have x2' := fun o => cell_kept_below x2 (Below.one hb2 o); have x3' := fun o => cell_kept_below x3 (Below.one hb2 o); have x4' := fun o => cell_kept_below x4 (Below.one hb2 o); have hbb := fun o => Below.one (Below.on hb hb2) o) | (go_at_call 67; refine (HG.out _ _ _ _).mono ?_; rintro e w3 ⟨rfl, rfl⟩) | (go_at_call 68; refine (HT.out _).mono ?_; rintro e w4 ⟨rfl, rfl⟩))
    replace x0' := fun o d os => cell_regrown (x0' o) d os
    replace x4' := fun o d os => cell_regrown (x4' o) d os
    replace m1' := fun o d os => cell_regrown (m1' o) d os
    refine wp_region_quiet_below (by kernel_rfl) (by kernel_rfl) ?_
    repeat (go_big_quiet_step (fail))
    refine wpQuiet_nil ?_
    rintro _ ⟨⟨dq, osq⟩, rfl⟩
    clear m1' f2' f4' x0' x1' x2' x3' x4'
    go_wp2_with fail
    go_ret
    exact ⟨rfl, Below.on (hbb _) (below_regrown _ dq osq)⟩
  · by_cases g1 : (m.funcs.length : Int) ≤ x.n
    · have hz := HZ.out
      simp [g1] at hz
      subst hz
      clear HZ
      have d0 : decide (x.n < 0) = false := decide_eq_false g0
      have d1 : decide ((m.funcs.length : Int) ≤ x.n) = true := decide_eq_true g1
      go_enter Tryz.func48, Tryz.ntmps48
      go_upto_region 19 with (first | (go_at_call 66; refine (HK.out _).mono ?_; rintro e w1 ⟨rfl, rfl⟩) | (go_at_call 34; refine (HH.out _).mono ?_; rintro e w2 ⟨rfl, hb2⟩; have m1' := fun o => cell_kept_below m1 (Below.one hb2 o); have f2' := fun o => cell_kept_below f2 (Below.one hb2 o); have f4' := fun o => cell_kept_below f4 (Below.one hb2 o); have x0' := fun o => cell_kept_below x0 (Below.one hb2 o); have x1' := fun o => cell_kept_below x1 (Below.one hb2 o); have x2' := fun o => cell_kept_below x2 (Below.one hb2 o); have x3' := fun o => cell_kept_below x3 (Below.one hb2 o); have x4' := fun o => cell_kept_below x4 (Below.one hb2 o); have hbb := fun o => Below.one (Below.on hb hb2) o) | (go_at_call 67; refine (HG.out _ _ _ _).mono ?_; rintro e w3 ⟨rfl, rfl⟩) | (go_at_call 68; refine (HT.out _).mono ?_; rintro e w4 ⟨rfl, rfl⟩))
      replace x0' := fun o d os => cell_regrown (x0' o) d os
      replace x4' := fun o d os => cell_regrown (x4' o) d os
      replace m1' := fun o d os => cell_regrown (m1' o) d os
      refine wp_region_quiet_below (by kernel_rfl) (by kernel_rfl) ?_
      repeat (go_big_quiet_step (fail))
      refine wpQuiet_nil ?_
      rintro _ ⟨⟨dq, osq⟩, rfl⟩
      clear m1' f2' f4' x0' x1' x2' x3' x4'
      go_wp2_with fail
      go_ret
      exact ⟨rfl, Below.on (hbb _) (below_regrown _ dq osq)⟩
    · obtain ⟨k, hk⟩ : ∃ k : Nat, x.n = k := ⟨x.n.toNat, by omega⟩
      have hk1 : k < m.funcs.length := by omega
      obtain ⟨b, o, e0, c0, c1, c2, c3, c4⟩ := fns_at HM.out hk1
      have hz := HZ.out
      have hnot : ¬ ((m.funcs.length : Int) ≤ (k : Int)) := by omega
      rw [hk, parN_at hk1] at hz
      have hz2 : z = if wrap64 (x.b + (m.funcs[k].params.length : Int)) > f.regs then 65 else 0 := by
        rw [hz]; congr 1; simp only [eq_iff_iff]; constructor
        · rintro (h | h | h)
          · omega
          · exact absurd h hnot
          · exact h
        · exact fun h => .inr (.inr h)
      obtain ⟨ta, tc, ths, fa, fc, funcs⟩ := m
      obtain ⟨xo, xa, xb, xc, xn⟩ := x
      simp only at *
      subst e0
      subst hk
      have hm1 : (k : Int) < (funcs.length : Int) := by omega
      have hk0 : ¬ ((k : Int) < 0) := by omega
      have d0 : decide ((k : Int) < 0) = false := decide_eq_false hk0
      have d1 : decide ((funcs.length : Int) ≤ (k : Int)) = false := decide_eq_false hnot
      have d2 : decide (funcs.length ≤ k) = false := decide_eq_false (by omega)
      generalize funcs[k] = g at *
      clear c0 c2 c3 c4 HZ g0 g1 hnot hz HM hk1
      cases hw : decide (f.regs < wrap64 (xb + (g.params.length : Int)))
      · have hz0 : z = 0 := by rw [hz2, if_neg (of_decide_eq_false hw)]
        subst hz0
        clear hz2
        go_enter Tryz.func48, Tryz.ntmps48
        go_upto_region 19 with (first | (go_at_call 66; refine (HK.out _).mono ?_; rintro e w1 ⟨rfl, rfl⟩) | (go_at_call 34; refine (HH.out _).mono ?_; rintro e w2 ⟨rfl, hb2⟩; have m1' := fun o => cell_kept_below m1 (Below.one hb2 o); have f2' := fun o => cell_kept_below f2 (Below.one hb2 o); have f4' := fun o => cell_kept_below f4 (Below.one hb2 o); have x0' := fun o => cell_kept_below x0 (Below.one hb2 o); have x1' := fun o => cell_kept_below x1 (Below.one hb2 o); have x2' := fun o => cell_kept_below x2 (Below.one hb2 o); have x3' := fun o => cell_kept_below x3 (Below.one hb2 o); have x4' := fun o => cell_kept_below x4 (Below.one hb2 o); have hbb := fun o => Below.one (Below.on hb hb2) o) | (go_at_call 67; refine (HG.out _ _ _ _).mono ?_; rintro e w3 ⟨rfl, rfl⟩) | (go_at_call 68; refine (HT.out _).mono ?_; rintro e w4 ⟨rfl, rfl⟩))
        replace x0' := fun o d os => cell_regrown (x0' o) d os
        replace x4' := fun o d os => cell_regrown (x4' o) d os
        replace m1' := fun o d os => cell_regrown (m1' o) d os
        replace x2' := fun o d os => cell_regrown (x2' o) d os
        replace f2' := fun o d os => cell_regrown (f2' o) d os
        have c1' := fun o d os => cell_regrown (cell_kept_below c1 (Below.one hb2 o)) d os
        refine wp_region_quiet_below (by kernel_rfl) (by kernel_rfl) ?_
        repeat (go_big_quiet_step (fail))
        refine wpQuiet_nil ?_
        rintro _ ⟨⟨dq, osq⟩, rfl⟩
        clear m1' f2' f4' x0' x1' x2' x3' x4' c1'
        go_wp2_with fail
        go_ret
        exact ⟨rfl, Below.on (hbb _) (below_regrown _ dq osq)⟩
      · have hz0 : z = 65 := by rw [hz2, if_pos (of_decide_eq_true hw)]
        subst hz0
        clear hz2
        go_enter Tryz.func48, Tryz.ntmps48
        go_upto_region 19 with (first | (go_at_call 66; refine (HK.out _).mono ?_; rintro e w1 ⟨rfl, rfl⟩) | (go_at_call 34; refine (HH.out _).mono ?_; rintro e w2 ⟨rfl, hb2⟩; have m1' := fun o => cell_kept_below m1 (Below.one hb2 o); have f2' := fun o => cell_kept_below f2 (Below.one hb2 o); have f4' := fun o => cell_kept_below f4 (Below.one hb2 o); have x0' := fun o => cell_kept_below x0 (Below.one hb2 o); have x1' := fun o => cell_kept_below x1 (Below.one hb2 o); have x2' := fun o => cell_kept_below x2 (Below.one hb2 o); have x3' := fun o => cell_kept_below x3 (Below.one hb2 o); have x4' := fun o => cell_kept_below x4 (Below.one hb2 o); have hbb := fun o => Below.one (Below.on hb hb2) o) | (go_at_call 67; refine (HG.out _ _ _ _).mono ?_; rintro e w3 ⟨rfl, rfl⟩) | (go_at_call 68; refine (HT.out _).mono ?_; rintro e w4 ⟨rfl, rfl⟩))
        replace x0' := fun o d os => cell_regrown (x0' o) d os
        replace x4' := fun o d os => cell_regrown (x4' o) d os
        replace m1' := fun o d os => cell_regrown (m1' o) d os
        replace x2' := fun o d os => cell_regrown (x2' o) d os
        replace f2' := fun o d os => cell_regrown (f2' o) d os
        have c1' := fun o d os => cell_regrown (cell_kept_below c1 (Below.one hb2 o)) d os
        refine wp_region_quiet_below (by kernel_rfl) (by kernel_rfl) ?_
        repeat (go_big_quiet_step (fail))
        refine wpQuiet_nil ?_
        rintro _ ⟨⟨dq, osq⟩, rfl⟩
        clear m1' f2' f4' x0' x1' x2' x3' x4' c1'
        go_wp2_with fail
        go_ret
        exact ⟨rfl, Below.on (hbb _) (below_regrown _ dq osq)⟩

end Go.Proofs.YtboidkmnkicoeaaGreatDoor

/- The document's own word on an instruction is the program's. -/
namespace Go.Proofs.YtboidkmnkicoeaaGreatDoor
open Go.RowKit Go.Sort

theorem op13 {op : Int} (h : 0 ≤ op ∧ op ≤ 19) : (op == 13) = ((rwOf op).n == 2) := by
  refine op_cases (P := fun op => (op == 13) = ((rwOf op).n == 2)) h.1 h.2 ?_ ?_ ?_ ?_ ?_ ?_ ?_ ?_ ?_ ?_ ?_ ?_ ?_ ?_ ?_ ?_ ?_ ?_ ?_ ?_ <;> decide
theorem op19 {op : Int} (h : 0 ≤ op ∧ op ≤ 19) : (op == 19) = ((rwOf op).n == 4) := by
  refine op_cases (P := fun op => (op == 19) = ((rwOf op).n == 4)) h.1 h.2 ?_ ?_ ?_ ?_ ?_ ?_ ?_ ?_ ?_ ?_ ?_ ?_ ?_ ?_ ?_ ?_ ?_ ?_ ?_ ?_ <;> decide
theorem insZ_eq (m : Mo) (f : Fn) (x : Is) : insZ m f x = if knB x.op = false then 60 else if regZ (bt (rwOf x.op).regs 0) x.a f.regs ≠ 0 then regZ (bt (rwOf x.op).regs 0) x.a f.regs else if regZ (bt (rwOf x.op).regs 1) x.b f.regs ≠ 0 then regZ (bt (rwOf x.op).regs 1) x.b f.regs else
    if regZ (bt (rwOf x.op).regs 2) x.c f.regs ≠ 0 then regZ (bt (rwOf x.op).regs 2) x.c f.regs else numZ m f x := rfl

set_option maxHeartbeats 1000000 in
theorem spoilt_no (m : Mo) (f : Fn) (x : Is) (w : World) (h : ¬ (0 ≤ x.op ∧ x.op ≤ 19)) : Calls Tryz.prog 48 #[m.val, f.val, x.val] w fun e w' => e = .returned (.int .i64 60) ∧ Below w.heap.size w w' := by
  have hb := below3 w (oM m) (oF f) (oX x)
  have HK := Hid.mk' (rknown_no h)
  unfold Mo.val Fn.val Is.val
  clear h
  go_enter Tryz.func48, Tryz.ntmps48
  go_wp2_with (go_at_call 66; refine (HK.out _).mono ?_; rintro e w1 ⟨rfl, rfl⟩)
  go_ret
  exact ⟨rfl, hb⟩

theorem spoilt_any (m : Mo) (f : Fn) (x : Is) (w : World) (hm : Fns w m.fa m.funcs) : Calls Tryz.prog 48 #[m.val, f.val, x.val] w fun e w' => e = .returned (.int .i64 (insZ m f x)) ∧ Below w.heap.size w w' := by
  rw [insZ_eq]
  by_cases h : 0 ≤ x.op ∧ x.op ≤ 19
  · rw [if_neg (by simp [knB]; omega)]
    have HK := Hid.mk' (rknown_yes h)
    have HH := Hid.mk' (rhas_any x.op)
    have HG := Hid.mk' register_any
    have HT := Hid.mk' (rtarget_any x.op)
    have h13 := op13 h
    have h19 := op19 h
    have hn := rw_n x.op
    have HN : numZ m f x = if (rwOf x.op).n = 0 then (if x.n ≠ 0 then 62 else 0) else if (rwOf x.op).n = 2 then (if x.n < 1 ∨ x.n > 4096 then 2 else 0) else if (rwOf x.op).n = 3 then (if x.n < 0 ∨ x.n ≥ f.code.length then 63 else 0)
      else if (rwOf x.op).n = 4 then callZ m f x else 0 := rfl
    unfold hasV at HH
    generalize numZ m f x = N at *
    generalize rwOf x.op = r at *
    obtain ⟨r0, r1, r2, r3, r4, r5⟩ := r
    simp only at *
    generalize bt r2 0 = b0 at *
    generalize bt r2 1 = b1 at *
    generalize bt r2 2 = b2 at *
    by_cases q0 : regZ b0 x.a f.regs = 0
    · rw [if_neg (by simp [q0])]
      by_cases q1 : regZ b1 x.b f.regs = 0
      · rw [if_neg (by simp [q1])]
        by_cases q2 : regZ b2 x.c f.regs = 0
        · rw [if_neg (by simp [q2])]
          rcases hn with rfl | rfl | rfl | rfl | rfl
          · simp at HN h13 h19
            by_cases hx : x.n = 0
            · rw [if_pos hx] at HN
              subst HN
              exact spoilt_ok m f x w hm b0 b1 b2 _ _ HK HH HG HT q0 q1 q2 (by simpa using h19) (.inl ⟨rfl, rfl, by simpa using h13, hx⟩)
            · rw [if_neg hx] at HN
              subst HN
              exact spoilt_num m f x w hm b0 b1 b2 _ _ HK HH HG HT 62 q0 q1 q2 (.inl ⟨rfl, hx, rfl⟩)
          · simp at HN h13 h19
            subst HN
            exact spoilt_ok m f x w hm b0 b1 b2 _ _ HK HH HG HT q0 q1 q2 (by simpa using h19) (.inr (.inl ⟨rfl, rfl, by simpa using h13⟩))
          · simp at HN h13 h19
            by_cases hx : x.n < 1
            · rw [if_pos (.inl hx)] at HN
              subst HN
              exact spoilt_num m f x w hm b0 b1 b2 _ _ HK HH HG HT 2 q0 q1 q2 (.inr (.inr ⟨rfl, rfl, by simpa using h13, .inl hx, rfl⟩))
            · by_cases hy : 4096 < x.n
              · rw [if_pos (.inr hy)] at HN
                subst HN
                exact spoilt_num m f x w hm b0 b1 b2 _ _ HK HH HG HT 2 q0 q1 q2 (.inr (.inr ⟨rfl, rfl, by simpa using h13, .inr ⟨hx, hy⟩, rfl⟩))
              · rw [if_neg (fun h => h.elim hx hy)] at HN
                subst HN
                exact spoilt_ok m f x w hm b0 b1 b2 _ _ HK HH HG HT q0 q1 q2 (by simpa using h19) (.inr (.inr (.inr ⟨rfl, rfl, by simpa using h13, hx, hy⟩)))
          · simp at HN h13 h19
            by_cases hx : x.n < 0
            · rw [if_pos (.inl hx)] at HN
              subst HN
              exact spoilt_num m f x w hm b0 b1 b2 _ _ HK HH HG HT 63 q0 q1 q2 (.inr (.inl ⟨rfl, rfl, .inl hx, rfl⟩))
            · by_cases hy : (f.code.length : Int) ≤ x.n
              · rw [if_pos (.inr hy)] at HN
                subst HN
                exact spoilt_num m f x w hm b0 b1 b2 _ _ HK HH HG HT 63 q0 q1 q2 (.inr (.inl ⟨rfl, rfl, .inr ⟨hx, hy⟩, rfl⟩))
              · rw [if_neg (fun h => h.elim hx hy)] at HN
                subst HN
                exact spoilt_ok m f x w hm b0 b1 b2 _ _ HK HH HG HT q0 q1 q2 (by simpa using h19) (.inr (.inr (.inl ⟨rfl, rfl, by simpa using h13, hx, hy⟩)))
          · simp at HN h13 h19
            subst HN
            exact spoilt_call m f x w hm b0 b1 b2 _ _ HK HH HG HT q0 q1 q2 (by simpa using h19) (by simpa using h13) rfl rfl
        · rw [if_pos q2]
          exact spoilt_reg m f x w hm b0 b1 b2 _ _ HK HH HG HT _ (.inr (.inr ⟨q0, q1, rfl, q2⟩))
      · rw [if_pos q1]
        exact spoilt_reg m f x w hm b0 b1 b2 _ _ HK HH HG HT _ (.inr (.inl ⟨q0, rfl, q1⟩))
    · rw [if_pos q0]
      exact spoilt_reg m f x w hm b0 b1 b2 _ _ HK HH HG HT _ (.inl ⟨rfl, q0⟩)
  · rw [if_pos (by simp [knB]; omega)]
    exact spoilt_no m f x w h
end Go.Proofs.YtboidkmnkicoeaaGreatDoor
