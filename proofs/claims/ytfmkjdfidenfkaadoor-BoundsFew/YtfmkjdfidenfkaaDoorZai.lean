/- Spans: Join, Meet, Below, Length; sums and differences of two numbers. A region that draws its order: quiet operations first, and a tail that waits for all of them (a store of what they made). One walk of the quiet ones serves every order; the tail is walked as it stands. Spans are compared; what Do tells of nothing. Spans: Widen. -/
import Derived.Test.YtfmkjdfidenfkaaDoorZah
import Derived.StillTail
import Derived.Lib.QuietBelow
import Derived.BigQuiet
namespace Go.Proofs.YtfmkjdfidenfkaaDoor.S8
open Go.RowKit Go.Lib Go.Sort

theorem sum_any (x y : Int) (hx : Nm x) (hy : Nm y) (w : World) : Calls Tryd.prog 108 #[.int .i64 x, .int .i64 y] w fun e w' => e = .returned (.tuple #[.int .i64 (wr (x + y)), .bool (fitB (x + y))]) ∧ w' = w := by
  have HE : Hid (fitB (x + y) = (decide (wrap64 (x + y) < x) == decide (y < 0))) := by
    show _ = _
    apply Bool.eq_iff_iff.2
    unfold fitB wrap64
    rw [beq_iff_eq, decide_eq_decide, decide_eq_true_iff]
    unfold Nm at *
    omega
  go_enter Tryd.func108, Tryd.ntmps108
  go_wp2
  go_ret2
  exact ⟨by rw [HE.out]; rfl, rfl⟩
theorem difference_any (x y : Int) (hx : Nm x) (hy : Nm y) (w : World) : Calls Tryd.prog 110 #[.int .i64 x, .int .i64 y] w fun e w' => e = .returned (.tuple #[.int .i64 (wr (x - y)), .bool (fitB (x - y))]) ∧ w' = w := by
  have HE : Hid (fitB (x - y) = (decide (x < wrap64 (x - y)) == decide (y < 0))) := by
    show _ = _
    apply Bool.eq_iff_iff.2
    unfold fitB wrap64
    rw [beq_iff_eq, decide_eq_decide, decide_eq_true_iff]
    unfold Nm at *
    omega
  go_enter Tryd.func110, Tryd.ntmps110
  go_wp2
  go_ret2
  exact ⟨by rw [HE.out]; rfl, rfl⟩
theorem distance_any (n : Int) (hn : Nm n) (w : World) : Calls Tryd.prog 112 #[.int .i64 n] w fun e w' => e = .returned (.int .u64 (dis n)) ∧ w' = w := by
  by_cases h : n < 0
  · have HE : Hid (dis n = IntKind.u64.wrap (-(IntKind.u64.wrap n))) := by
      show _ = _
      rw [IntKind.wrap_u64, IntKind.wrap_u64]
      unfold dis Nm at *
      rw [if_pos h]
      omega
    go_enter Tryd.func112, Tryd.ntmps112
    go_wp2
    go_ret
    exact ⟨by rw [HE.out]; rfl, rfl⟩
  · have HE : Hid (dis n = IntKind.u64.wrap n) := by
      show _ = _
      rw [IntKind.wrap_u64]
      unfold dis Nm at *
      rw [if_neg h]
      omega
    go_enter Tryd.func112, Tryd.ntmps112
    go_wp2
    go_ret
    exact ⟨by rw [HE.out]; rfl, rfl⟩
theorem empV (l h : Int) (w : World) : Calls Tryd.prog 91 #[.agg #[.int .i64 l, .int .i64 h]] w fun e w' => e = .returned (.bool (decide (h < l))) ∧ Below w.heap.size w w' := empty_any (l, h) w

set_option maxHeartbeats 1000000 in
theorem join_any (a b : Sp) (w : World) : Calls Tryd.prog 76 #[sv a, sv b] w fun e w' => e = .returned (sv (joinS a b)) ∧ Below w.heap.size w w' := by
  obtain ⟨al, ah⟩ := a
  obtain ⟨bl, bh⟩ := b
  have HE := Hid.mk' empV
  have hb := fun (o1 o2 o3 : Obj) => (Below.one (Below.one (Below.one (Below.refl _ w) o1) o2) o3 : Below w.heap.size w _)
  by_cases h1 : ah < al
  · have hj : joinS (al, ah) (bl, bh) = (bl, bh) := by unfold joinS; rw [if_pos h1]
    rw [hj]
    go_enter Tryd.func76, Tryd.ntmps76
    go_wp2_with (go_at_call_of 91 (Value.agg #[Value.int .i64 al, Value.int .i64 ah]); refine (HE.out _ _ _).mono ?_; rintro e w1 ⟨rfl, hb1⟩; have A0 := At.stay (At.more (At.more (At.new w (al, ah)) _) _) hb1; have A1 := At.stay (At.more (At.new1 w (bl, bh) _) _) hb1; have A2 := At.stay (At.new2 w (0, 0) _ _) hb1; have x0 := A0.c0; have x1 := A0.c1; have y0 := A1.c0; have y1 := A1.c1; have z0 := A2.c0; have z1 := A2.c1; have z2 := A2.f0; have z3 := A2.f1)
    exact bodyPost_ret (v := sv (bl, bh)) (by simp [results, Tryd.results76, go_sem, *]) rfl ⟨rfl, ((Below.on (hb _ _ _) hb1).setCell (by simp; omega) _).setCell (by simp; omega) _⟩
  · by_cases h2 : bh < bl
    · have hj : joinS (al, ah) (bl, bh) = (al, ah) := by unfold joinS; rw [if_neg h1, if_pos h2]
      rw [hj]
      go_enter Tryd.func76, Tryd.ntmps76
      go_wp2_with (first | (go_at_call_of 91 (Value.agg #[Value.int .i64 al, Value.int .i64 ah]); refine (HE.out _ _ _).mono ?_; rintro e w1 ⟨rfl, hb1⟩; have A0 := At.stay (At.more (At.more (At.new w (al, ah)) _) _) hb1; have A1 := At.stay (At.more (At.new1 w (bl, bh) _) _) hb1; have A2 := At.stay (At.new2 w (0, 0) _ _) hb1; have x0 := A0.c0; have x1 := A0.c1; have y0 := A1.c0; have y1 := A1.c1; have z0 := A2.c0; have z1 := A2.c1; have z2 := A2.f0; have z3 := A2.f1) | (go_at_call_of 91 (Value.agg #[Value.int .i64 bl, Value.int .i64 bh]); refine (HE.out _ _ _).mono ?_; rintro e w2 ⟨rfl, hb2⟩; have D0 := A0.stay hb2; have D1 := A1.stay hb2; have D2 := A2.stay hb2; have u0 := D0.c0; have u1 := D0.c1; have v0 := D1.c0; have v1 := D1.c1; have t0 := D2.c0; have t1 := D2.c1; have t2 := D2.f0; have t3 := D2.f1))
      exact bodyPost_ret (v := sv (al, ah)) (by simp [results, Tryd.results76, go_sem, *]) rfl ⟨rfl, ((Below.on (Below.on (hb _ _ _) hb1) hb2).setCell (by simp; omega) _).setCell (by simp; omega) _⟩
    · have hj : joinS (al, ah) (bl, bh) = (min al bl, max ah bh) := by unfold joinS; rw [if_neg h1, if_neg h2]
      rw [hj]
      go_enter Tryd.func76, Tryd.ntmps76
      go_wp2_with (first | (go_at_call_of 91 (Value.agg #[Value.int .i64 al, Value.int .i64 ah]); refine (HE.out _ _ _).mono ?_; rintro e w1 ⟨rfl, hb1⟩; have A0 := At.stay (At.more (At.more (At.new w (al, ah)) _) _) hb1; have A1 := At.stay (At.more (At.new1 w (bl, bh) _) _) hb1; have A2 := At.stay (At.new2 w (0, 0) _ _) hb1; have x0 := A0.c0; have x1 := A0.c1; have y0 := A1.c0; have y1 := A1.c1; have z0 := A2.c0; have z1 := A2.c1; have z2 := A2.f0; have z3 := A2.f1) | (go_at_call_of 91 (Value.agg #[Value.int .i64 bl, Value.int .i64 bh]); refine (HE.out _ _ _).mono ?_; rintro e w2 ⟨rfl, hb2⟩; have D0 := A0.stay hb2; have D1 := A1.stay hb2; have D2 := A2.stay hb2; have u0 := D0.c0; have u1 := D0.c1; have v0 := D1.c0; have v1 := D1.c1; have t0 := D2.c0; have t1 := D2.c1; have t2 := D2.f0; have t3 := D2.f1))
      all_goals exact bodyPost_ret (v := sv (min al bl, max ah bh)) (by simp [results, Tryd.results76, go_sem, *] <;> omega) rfl ⟨rfl, ((Below.on (Below.on (hb _ _ _) hb1) hb2).setCell (by simp; omega) _).setCell (by simp; omega) _⟩
set_option maxHeartbeats 1000000 in
theorem meet_any (a b : Sp) (w : World) : Calls Tryd.prog 85 #[sv a, sv b] w fun e w' => e = .returned (.tuple #[sv (meetS a b), .bool (meetB a b)]) ∧ Below w.heap.size w w' := by
  obtain ⟨al, ah⟩ := a
  obtain ⟨bl, bh⟩ := b
  have HE := Hid.mk' empV
  have hb := fun (o1 o2 o3 o4 : Obj) => (Below.one (Below.one (Below.one (Below.one (Below.refl _ w) o1) o2) o3) o4 : Below w.heap.size w _)
  by_cases c1 : al < bl
  · by_cases c2 : bh < ah
    · by_cases c3 : bh < bl
      · have hS : meetS (al, ah) (bl, bh) = (0, 0) := by unfold meetS; rw [if_neg (by simp only; omega)]
        have hB : meetB (al, ah) (bl, bh) = false := decide_eq_false (by simp only; omega)
        rw [hS, hB]
        clear hS hB
        go_enter Tryd.func85, Tryd.ntmps85
        go_wp2_with (go_at_call 91; refine (HE.out _ _ _).mono ?_; rintro e w1 ⟨rfl, hb1⟩; have A2 := At.stay (At.more (At.new2 w (0, 0) _ _) _) hb1; have A3 := At.stay (At.new3 w (bl, bh) _ _ _) hb1; have z0 := A2.c0; have z1 := A2.c1; have z2 := A2.f0; have z3 := A2.f1; have x0 := A3.c0; have x1 := A3.c1)
        exact bodyPost_ret (v := .tuple #[sv (0, 0), .bool false]) (by simp [results, Tryd.results85, go_sem, *]) rfl ⟨rfl, ((Below.on (hb _ _ _ _) hb1).setCell (by simp; omega) _).setCell (by simp; omega) _⟩
      · have hS : meetS (al, ah) (bl, bh) = (bl, bh) := by unfold meetS; rw [if_pos (by simp only; omega)]; exact Prod.ext (by simp only; omega) (by simp only; omega)
        have hB : meetB (al, ah) (bl, bh) = true := decide_eq_true (by simp only; omega)
        rw [hS, hB]
        clear hS hB
        go_enter Tryd.func85, Tryd.ntmps85
        go_wp2_with (go_at_call 91; refine (HE.out _ _ _).mono ?_; rintro e w1 ⟨rfl, hb1⟩; have A2 := At.stay (At.more (At.new2 w (0, 0) _ _) _) hb1; have A3 := At.stay (At.new3 w (bl, bh) _ _ _) hb1; have z0 := A2.c0; have z1 := A2.c1; have z2 := A2.f0; have z3 := A2.f1; have x0 := A3.c0; have x1 := A3.c1)
        exact bodyPost_ret (v := .tuple #[sv (bl, bh), .bool true]) (by simp [results, Tryd.results85, go_sem, *]) rfl ⟨rfl, ((Below.on (hb _ _ _ _) hb1).setCell (by simp; omega) _).setCell (by simp; omega) _⟩
    · by_cases c3 : ah < bl
      · have hS : meetS (al, ah) (bl, bh) = (0, 0) := by unfold meetS; rw [if_neg (by simp only; omega)]
        have hB : meetB (al, ah) (bl, bh) = false := decide_eq_false (by simp only; omega)
        rw [hS, hB]
        clear hS hB
        go_enter Tryd.func85, Tryd.ntmps85
        go_wp2_with (go_at_call 91; refine (HE.out _ _ _).mono ?_; rintro e w1 ⟨rfl, hb1⟩; have A2 := At.stay (At.more (At.new2 w (0, 0) _ _) _) hb1; have A3 := At.stay (At.new3 w (bl, ah) _ _ _) hb1; have z0 := A2.c0; have z1 := A2.c1; have z2 := A2.f0; have z3 := A2.f1; have x0 := A3.c0; have x1 := A3.c1)
        exact bodyPost_ret (v := .tuple #[sv (0, 0), .bool false]) (by simp [results, Tryd.results85, go_sem, *]) rfl ⟨rfl, ((Below.on (hb _ _ _ _) hb1).setCell (by simp; omega) _).setCell (by simp; omega) _⟩
      · have hS : meetS (al, ah) (bl, bh) = (bl, ah) := by unfold meetS; rw [if_pos (by simp only; omega)]; exact Prod.ext (by simp only; omega) (by simp only; omega)
        have hB : meetB (al, ah) (bl, bh) = true := decide_eq_true (by simp only; omega)
        rw [hS, hB]
        clear hS hB
        go_enter Tryd.func85, Tryd.ntmps85
        go_wp2_with (go_at_call 91; refine (HE.out _ _ _).mono ?_; rintro e w1 ⟨rfl, hb1⟩; have A2 := At.stay (At.more (At.new2 w (0, 0) _ _) _) hb1; have A3 := At.stay (At.new3 w (bl, ah) _ _ _) hb1; have z0 := A2.c0; have z1 := A2.c1; have z2 := A2.f0; have z3 := A2.f1; have x0 := A3.c0; have x1 := A3.c1)
        exact bodyPost_ret (v := .tuple #[sv (bl, ah), .bool true]) (by simp [results, Tryd.results85, go_sem, *]) rfl ⟨rfl, ((Below.on (hb _ _ _ _) hb1).setCell (by simp; omega) _).setCell (by simp; omega) _⟩
  · by_cases c2 : bh < ah
    · by_cases c3 : bh < al
      · have hS : meetS (al, ah) (bl, bh) = (0, 0) := by unfold meetS; rw [if_neg (by simp only; omega)]
        have hB : meetB (al, ah) (bl, bh) = false := decide_eq_false (by simp only; omega)
        rw [hS, hB]
        clear hS hB
        go_enter Tryd.func85, Tryd.ntmps85
        go_wp2_with (go_at_call 91; refine (HE.out _ _ _).mono ?_; rintro e w1 ⟨rfl, hb1⟩; have A2 := At.stay (At.more (At.new2 w (0, 0) _ _) _) hb1; have A3 := At.stay (At.new3 w (al, bh) _ _ _) hb1; have z0 := A2.c0; have z1 := A2.c1; have z2 := A2.f0; have z3 := A2.f1; have x0 := A3.c0; have x1 := A3.c1)
        exact bodyPost_ret (v := .tuple #[sv (0, 0), .bool false]) (by simp [results, Tryd.results85, go_sem, *]) rfl ⟨rfl, ((Below.on (hb _ _ _ _) hb1).setCell (by simp; omega) _).setCell (by simp; omega) _⟩
      · have hS : meetS (al, ah) (bl, bh) = (al, bh) := by unfold meetS; rw [if_pos (by simp only; omega)]; exact Prod.ext (by simp only; omega) (by simp only; omega)
        have hB : meetB (al, ah) (bl, bh) = true := decide_eq_true (by simp only; omega)
        rw [hS, hB]
        clear hS hB
        go_enter Tryd.func85, Tryd.ntmps85
        go_wp2_with (go_at_call 91; refine (HE.out _ _ _).mono ?_; rintro e w1 ⟨rfl, hb1⟩; have A2 := At.stay (At.more (At.new2 w (0, 0) _ _) _) hb1; have A3 := At.stay (At.new3 w (al, bh) _ _ _) hb1; have z0 := A2.c0; have z1 := A2.c1; have z2 := A2.f0; have z3 := A2.f1; have x0 := A3.c0; have x1 := A3.c1)
        exact bodyPost_ret (v := .tuple #[sv (al, bh), .bool true]) (by simp [results, Tryd.results85, go_sem, *]) rfl ⟨rfl, ((Below.on (hb _ _ _ _) hb1).setCell (by simp; omega) _).setCell (by simp; omega) _⟩
    · by_cases c3 : ah < al
      · have hS : meetS (al, ah) (bl, bh) = (0, 0) := by unfold meetS; rw [if_neg (by simp only; omega)]
        have hB : meetB (al, ah) (bl, bh) = false := decide_eq_false (by simp only; omega)
        rw [hS, hB]
        clear hS hB
        go_enter Tryd.func85, Tryd.ntmps85
        go_wp2_with (go_at_call 91; refine (HE.out _ _ _).mono ?_; rintro e w1 ⟨rfl, hb1⟩; have A2 := At.stay (At.more (At.new2 w (0, 0) _ _) _) hb1; have A3 := At.stay (At.new3 w (al, ah) _ _ _) hb1; have z0 := A2.c0; have z1 := A2.c1; have z2 := A2.f0; have z3 := A2.f1; have x0 := A3.c0; have x1 := A3.c1)
        exact bodyPost_ret (v := .tuple #[sv (0, 0), .bool false]) (by simp [results, Tryd.results85, go_sem, *]) rfl ⟨rfl, ((Below.on (hb _ _ _ _) hb1).setCell (by simp; omega) _).setCell (by simp; omega) _⟩
      · have hS : meetS (al, ah) (bl, bh) = (al, ah) := by unfold meetS; rw [if_pos (by simp only; omega)]; exact Prod.ext (by simp only; omega) (by simp only; omega)
        have hB : meetB (al, ah) (bl, bh) = true := decide_eq_true (by simp only; omega)
        rw [hS, hB]
        clear hS hB
        go_enter Tryd.func85, Tryd.ntmps85
        go_wp2_with (go_at_call 91; refine (HE.out _ _ _).mono ?_; rintro e w1 ⟨rfl, hb1⟩; have A2 := At.stay (At.more (At.new2 w (0, 0) _ _) _) hb1; have A3 := At.stay (At.new3 w (al, ah) _ _ _) hb1; have z0 := A2.c0; have z1 := A2.c1; have z2 := A2.f0; have z3 := A2.f1; have x0 := A3.c0; have x1 := A3.c1)
        exact bodyPost_ret (v := .tuple #[sv (al, ah), .bool true]) (by simp [results, Tryd.results85, go_sem, *]) rfl ⟨rfl, ((Below.on (hb _ _ _ _) hb1).setCell (by simp; omega) _).setCell (by simp; omega) _⟩
theorem sglV (l h : Int) (w : World) : Calls Tryd.prog 102 #[.agg #[.int .i64 l, .int .i64 h]] w fun e w' => e = .returned (.bool (l == h)) ∧ Below w.heap.size w w' := single_any (l, h) w
theorem allV (w : World) : Calls Tryd.prog 84 #[] w fun e w' => e = .returned (.agg #[.int .i64 (-9223372036854775808), .int .i64 9223372036854775807]) ∧ Below w.heap.size w w' := all_any w
set_option maxHeartbeats 1000000 in
theorem settle_any (a b o : Sp) (f : Bool) (w : World) : Calls Tryd.prog 109 #[sv a, sv b, sv o, .bool f] w fun e w' => e = .returned (sv (setS a b o f)) ∧ Below w.heap.size w w' := by
  obtain ⟨al, ah⟩ := a
  obtain ⟨bl, bh⟩ := b
  obtain ⟨ol, oh⟩ := o
  have HS := Hid.mk' sglV
  have HA := Hid.mk' allV
  have hb := fun (o1 o2 o3 o4 : Obj) => (Below.one (Below.one (Below.one (Below.one (Below.refl _ w) o1) o2) o3) o4 : Below w.heap.size w _)
  cases f
  · by_cases h1 : al = ah
    · by_cases h2 : bl = bh
      · have hS : setS (al, ah) (bl, bh) (ol, oh) false = (ol, oh) := by simp [setS, sgB, h1, h2]
        rw [hS]
        clear hS
        have e1 : (al == ah) = true := by simp [h1]
        have e2 : (bl == bh) = true := by simp [h2]
        clear h1 h2
        go_enter Tryd.func109, Tryd.ntmps109
        go_wp2_with (first | (go_at_call_of 102 (Value.agg #[Value.int .i64 al, Value.int .i64 ah]); refine (HS.out _ _ _).mono ?_; rintro e w1 ⟨rfl, hb1⟩; have A0 := At.stay (At.more (At.more (At.more (At.new w (al, ah)) _) _) _) hb1; have A1 := At.stay (At.more (At.more (At.new1 w (bl, bh) _) _) _) hb1; have A2 := At.stay (At.more (At.new2 w (ol, oh) _ _) _) hb1; have A3 := At.stay (At.new3 w (0, 0) _ _ _) hb1; have y0 := A1.c0; have y1 := A1.c1; have x0 := A2.c0; have x1 := A2.c1; have z0 := A3.c0; have z1 := A3.c1; have z2 := A3.f0; have z3 := A3.f1) | (go_at_call_of 102 (Value.agg #[Value.int .i64 bl, Value.int .i64 bh]); refine (HS.out _ _ _).mono ?_; rintro e w2 ⟨rfl, hb2⟩; have D2 := A2.stay hb2; have D3 := A3.stay hb2; have u0 := D2.c0; have u1 := D2.c1; have t0 := D3.c0; have t1 := D3.c1; have t2 := D3.f0; have t3 := D3.f1))
        exact bodyPost_ret (v := sv (ol, oh)) (by simp [results, Tryd.results109, go_sem, *]) rfl ⟨rfl, ((Below.on (Below.on (hb _ _ _ _) hb1) hb2).setCell (by simp; omega) _).setCell (by simp; omega) _⟩
      · have hS : setS (al, ah) (bl, bh) (ol, oh) false = allS := by simp [setS, sgB, h2]
        rw [hS]
        clear hS
        have e1 : (al == ah) = true := by simp [h1]
        have e2 := beq_no h2
        clear h1 h2
        go_enter Tryd.func109, Tryd.ntmps109
        go_wp2_with (first | (go_at_call_of 102 (Value.agg #[Value.int .i64 al, Value.int .i64 ah]); refine (HS.out _ _ _).mono ?_; rintro e w1 ⟨rfl, hb1⟩; have A0 := At.stay (At.more (At.more (At.more (At.new w (al, ah)) _) _) _) hb1; have A1 := At.stay (At.more (At.more (At.new1 w (bl, bh) _) _) _) hb1; have A2 := At.stay (At.more (At.new2 w (ol, oh) _ _) _) hb1; have A3 := At.stay (At.new3 w (0, 0) _ _ _) hb1; have y0 := A1.c0; have y1 := A1.c1; have x0 := A2.c0; have x1 := A2.c1; have z0 := A3.c0; have z1 := A3.c1; have z2 := A3.f0; have z3 := A3.f1) | (go_at_call_of 102 (Value.agg #[Value.int .i64 bl, Value.int .i64 bh]); refine (HS.out _ _ _).mono ?_; rintro e w2 ⟨rfl, hb2⟩; have D2 := A2.stay hb2; have D3 := A3.stay hb2; have u0 := D2.c0; have u1 := D2.c1; have t0 := D3.c0; have t1 := D3.c1; have t2 := D3.f0; have t3 := D3.f1) | (go_at_call 84; refine (HA.out _).mono ?_; rintro e w3 ⟨rfl, hb3⟩; have E3 := D3.stay hb3; have s0 := E3.c0; have s1 := E3.c1; have s2 := E3.f0; have s3 := E3.f1))
        exact bodyPost_ret (v := sv allS) (by simp [results, Tryd.results109, go_sem, allS, *]) rfl ⟨rfl, ((Below.on (Below.on (Below.on (hb _ _ _ _) hb1) hb2) hb3).setCell (by simp; omega) _).setCell (by simp; omega) _⟩
    · have hS : setS (al, ah) (bl, bh) (ol, oh) false = allS := by simp [setS, sgB, h1]
      rw [hS]
      clear hS
      have e1 := beq_no h1
      clear h1
      have hu : undef = Value.tuple #[] := rfl
      go_enter Tryd.func109, Tryd.ntmps109
      go_wp2_with (first | (go_at_call_of 102 (Value.agg #[Value.int .i64 al, Value.int .i64 ah]); refine (HS.out _ _ _).mono ?_; rintro e w1 ⟨rfl, hb1⟩; have A0 := At.stay (At.more (At.more (At.more (At.new w (al, ah)) _) _) _) hb1; have A1 := At.stay (At.more (At.more (At.new1 w (bl, bh) _) _) _) hb1; have A2 := At.stay (At.more (At.new2 w (ol, oh) _ _) _) hb1; have A3 := At.stay (At.new3 w (0, 0) _ _ _) hb1; have y0 := A1.c0; have y1 := A1.c1; have x0 := A2.c0; have x1 := A2.c1; have z0 := A3.c0; have z1 := A3.c1; have z2 := A3.f0; have z3 := A3.f1) | (go_at_call 84; refine (HA.out _).mono ?_; rintro e w3 ⟨rfl, hb3⟩; have E3 := A3.stay hb3; have s0 := E3.c0; have s1 := E3.c1; have s2 := E3.f0; have s3 := E3.f1))
      exact bodyPost_ret (v := sv allS) (by simp [results, Tryd.results109, go_sem, allS, *]) rfl ⟨rfl, ((Below.on (Below.on (hb _ _ _ _) hb1) hb3).setCell (by simp; omega) _).setCell (by simp; omega) _⟩
  · have hS : setS (al, ah) (bl, bh) (ol, oh) true = (ol, oh) := by simp [setS]
    rw [hS]
    clear hS
    go_enter Tryd.func109, Tryd.ntmps109
    go_wp2_with fail
    exact bodyPost_ret (v := sv (ol, oh)) (by simp [results, Tryd.results109, go_sem, *]) rfl ⟨rfl, hb _ _ _ _⟩
end Go.Proofs.YtfmkjdfidenfkaaDoor.S8
namespace Go.Proofs.YtfmkjdfidenfkaaDoor.S8
open Go.Sort

section
variable {P : Program} {ops : Array Oper} {md : Region.Mode} {C : World → Prop}

/-- So many operations of the head come up, in any order; then L. -/
def headQ (P : Program) (md : Region.Mode) (ops : Array Oper) (C : World → Prop) (n : Nat) (L : Array Bool → Act → Prop) : Nat → Array Bool → Act → Prop
  | 0 => L
  | f + 1 => fun done a => Region.ready md ops done ≠ [] ∧ ∀ i ∈ Region.ready md ops done, i < n ∧ qOp P ops C i (headQ P md ops C n L f (done.setIfInBounds i true)) a

theorem any_of_headQ {n g : Nat} {L : Array Bool → Act → Prop} {Q : Exit → Act → World → Prop} (hL : ∀ done a w, C w → L done a → wpAny P md ops Q g done a w) (f : Nat) :
    ∀ (done : Array Bool) (a : Act) (w : World), C w → headQ P md ops C n L f done a → wpAny P md ops Q (f + g) done a w := by
  induction f with
  | zero => intro done a w hw h; rw [Nat.zero_add]; exact hL _ _ _ hw h
  | succ f ih =>
    intro done a w hw h
    rw [Nat.add_right_comm]
    exact ⟨fun h0 => (h.1 h0).elim, fun i hi => wpOp_of_qOp hw (fun a' w' hw' h' => ih _ a' w' hw' h') (h.2 i hi).2⟩

theorem headQ_first {n i : Nat} {oi : Oper} {v : Value} {L : Array Bool → Act → Prop} (hi : ops[i]? = some oi) (hsel : Region.noSelect ops = true)
    (hs : Region.sinkB md ops n = true) (hc : Region.chainB md ops n = true) (hn : n < ops.size) (hin : i < n) (hdone : ∀ done a, L done a → ∀ j ∈ Region.ready md ops done, n ≤ j) (f : Nat) :
    ∀ (done : Array Bool) (a : Act), HeadInv md ops n done →
      (∀ j oj, ops[j]? = some oj → j ≠ i → done.getD j true = false → (∀ e ∈ oj.after, Region.binds md e = true → e.on ≠ i) → oi.apart ops oj = true) →
      i ∈ Region.ready md ops done → YieldsIn P ops C oi v a →
      headQ P md ops C n L f (done.setIfInBounds i true) (a.put oi.dst v) → headQ P md ops C n L (f + 1) done a := by
  have ns := Region.noSelect_spec hsel
  induction f with
  | zero =>
    intro done a inv _ hr hy H
    refine ⟨List.ne_nil_of_mem hr, fun j hj => ?_⟩
    have hjn : j < n := Nat.lt_of_not_le fun h => tail_waits hs hc hn inv _ i rfl hin (mem_ready.1 hr).1 j h hj
    refine ⟨hjn, ?_⟩
    rcases Nat.decEq j i with hji | hji
    · exact absurd (hdone _ _ H j (ready_mono hj hji)) (by omega)
    · subst hji; exact hy.qOp hi H
  | succ f ih =>
    intro done a inv hfree hr hy H
    have hun := (mem_ready.1 hr).1
    refine ⟨List.ne_nil_of_mem hr, fun j hj => ?_⟩
    have hjn : j < n := Nat.lt_of_not_le fun h => tail_waits hs hc hn inv _ i rfl hin hun j h hj
    refine ⟨hjn, ?_⟩
    rcases Nat.decEq j i with hji | hji
    · obtain ⟨hjun, oj, hoj, hall⟩ := mem_ready.1 hj
      have hap := hfree j oj hoj hji hjun fun e he hb heq => by
        have := hall e he hb
        rw [heq, getD_both hun] at this
        exact Bool.noConfusion this
      refine qOp_mono (fun a' h3 => ih _ a' (inv.set hj hjn) (fun k ok hk hki hku hno => hfree k ok hk hki ?_ hno) (ready_mono hr (Ne.symm hji)) h3.1 ?_)
        (qOp_put hoj hap (fun cs b => ns i oi cs b hi) (fun cs b => ns j oj cs b hoj) hy (H.2 j (ready_mono hj hji)).2)
      · rcases Nat.decEq j k with hjk | hjk
        · rwa [getD_set_ne true hjk] at hku
        · exact hjk ▸ hjun
      · rw [Array.setIfInBounds_comm _ _ hji]; exact h3.2
    · subst hji; exact hy.qOp hi H

theorem headQ_lex {n g : Nat} {Lq : Act → Prop} (hsel : Region.noSelect ops = true) (hs : Region.sinkB md ops n = true) (hc : Region.chainB md ops n = true) (hn : n < ops.size) (l : List Oper) :
    ∀ (k : Nat) (done : Array Bool) (a : Act), (∀ j, j < l.length → l[j]? = ops[k + j]?) → k + l.length = n → HeadInv md ops n done → Region.lexHead md ops g l.length k done = true → wpQuiet P ops C Lq l a →
    headQ P md ops C n (fun done' a' => Region.seqB md ops g n done' = true ∧ Lq a') l.length done a := by
  induction l with
  | nil =>
    intro k done a _ hk _ hB h
    obtain rfl : k = n := by simpa using hk
    exact ⟨by simpa [Region.lexHead] using hB, h⟩
  | cons o l ih =>
    intro k done a hl hk inv hB h
    rw [List.length_cons] at hk
    have h0 : ops[k]? = some o := by simpa using (hl 0 (by simp)).symm
    simp only [List.length_cons, Region.lexHead, Bool.and_eq_true] at hB
    have hr : k ∈ Region.ready md ops done := by simpa using hB.1.1
    have hq : qOp P ops C k (wpQuiet P ops C Lq l) a := by unfold qOp; simp only [h0]; exact h
    obtain ⟨v, hy, hK⟩ := yieldsIn_of_qOp h0 hq
    refine headQ_first h0 hsel hs hc hn (by omega) (fun _ _ hL => seqB_ready hL.1) l.length done a inv (Region.free_spec h0 hB.1.2) hr hy ?_
    refine ih (k + 1) _ _ (fun j hj => ?_) (by omega) (inv.set hr (by omega)) hB.2 hK
    have := hl (j + 1) (by simp; omega)
    rwa [List.getElem?_cons_succ, show k + (j + 1) = k + 1 + j by omega] at this

theorem region_quiet_tail {id : Nat} {Q : Exit → Act → World → Prop} {a : Act} {w : World} {l : List Oper} (n : Nat) (hm : P.follows .mixedOrders = true) (hB : Region.lexTailB .any l.toArray n = true) (hC : C { w with drawn := w.drawn + 1 })
    (h : wpQuiet P l.toArray C (fun a' => ∀ w', C w' → wpList P l.toArray Q (l.drop n) a' w') (l.take n) a) : (Code.region id l.toArray true).wp P Q a w := by
  simp only [Region.lexTailB, Bool.and_eq_true, decide_eq_true_eq] at hB
  obtain ⟨⟨⟨⟨hsel, hn⟩, hs⟩, hc⟩, hlex⟩ := hB
  have hn' : n < l.length := by simpa using hn
  have ht : (l.take n).length = n := by simp; omega
  have hd : (l.drop n).length = l.toArray.size - n := by simp
  have inv0 : HeadInv .any l.toArray n (Array.replicate l.toArray.size false) :=
    ⟨by simp, fun j oj _ hj => (by rw [getD_replicate_false] at hj; cases hj), fun t _ ht => getD_in (by simpa using ht) (getD_replicate_false _ _)⟩
  have H := headQ_lex (md := .any) (g := l.toArray.size - n) hsel hs hc hn (l.take n) 0 _ a (fun j hj => by
    have : j < n := by omega
    simp [this]) (by omega) inv0 (by rw [ht]; exact hlex) h
  refine wp_region_any hm ?_
  have := any_of_headQ (Q := Q) (g := l.toArray.size - n) (fun done a' w' hw' hL => by
    have := wpAny_of_seq (md := .any) (Q' := Q) (l.drop n) n done a' w' (fun j => by simp [List.getElem?_drop]) (by rw [hd]; exact hL.1) (hL.2 w' hw')
    rwa [hd] at this) _ _ _ _ hC H
  rwa [ht, show n + (l.toArray.size - n) = l.toArray.size by omega] at this
end
/-- The class: what lay there before lies there still. -/
theorem region_below_tail {P : Program} {id : Nat} {Q : Exit → Act → World → Prop} {a : Act} {w : World} {l : List Oper} (n : Nat) (hm : P.follows .mixedOrders = true) (hB : Region.lexTailB .any l.toArray n = true)
    (h : wpQuiet P l.toArray (fun w' => ∃ p : Regrown, w' = grow (redrawn w p.d) p.os) (fun a' => ∀ w', (∃ p : Regrown, w' = grow (redrawn w p.d) p.os) → wpList P l.toArray Q (l.drop n) a' w') (l.take n) a) : (Code.region id l.toArray true).wp P Q a w :=
  region_quiet_tail (C := fun w' => ∃ p : Regrown, w' = grow (redrawn w p.d) p.os) n hm hB ⟨⟨w.drawn + 1, #[]⟩, by rw [grow_empty]; rfl⟩ h
end Go.Proofs.YtfmkjdfidenfkaaDoor.S8
namespace Go.Proofs.YtfmkjdfidenfkaaDoor.S8
open Go.RowKit Go.Lib Go.Sort

theorem emF {l h : Int} (H : l ≤ h) (w : World) : Calls Tryd.prog 91 #[.agg #[.int .i64 l, .int .i64 h]] w fun e w' => e = .returned (.bool false) ∧ Below w.heap.size w w' := by
  have := empV l h w
  rwa [decide_eq_false (by omega)] at this
theorem emT {l h : Int} (H : h < l) (w : World) : Calls Tryd.prog 91 #[.agg #[.int .i64 l, .int .i64 h]] w fun e w' => e = .returned (.bool true) ∧ Below w.heap.size w w' := by
  have := empV l h w
  rwa [decide_eq_true H] at this
theorem eqGuard_s (w : World) (op : BinOp) (a b : Operand) (xs ys : Array Value) : (eqGuard op 54 a b (.agg xs) (.agg ys)).run Tryd.prog w = .ok () w := run_eqGuard_agg w op 54 a b xs ys (by kernel_rfl)
theorem equalIn_s (a b a' b' : Int) (w : World) : (Op.equalIn 10000 54 (.agg #[.int .i64 a, .int .i64 b]) (.agg #[.int .i64 a', .int .i64 b'])).run Tryd.prog w = .ok (a == a' && b == b') w := by
  have u3 := Tryd.underlying2
  have a3 := Tryd.isAgg2
  have z3 := Tryd.sizeOf2
  have hS : Tryd.prog.underlying 54 = some (.struct (Tryd.prog.fieldsOf 54)) := by kernel_rfl
  have hp : Tryd.prog.stoodInHeld 54 = false := by kernel_rfl
  rw [show (10000 : Nat) = 9999 + 1 from rfl, run_equalIn_agg w 9999 54 _ _ hS hp]
  simp only [Program.fieldsOf, Tryd.underlying54]
  go_simp
  by_cases h1 : a = a' <;> by_cases h2 : b = b' <;> simp [h1, h2]
theorem eq_and {a b a' b' : Int} : (a == a' && b == b') = decide ((a, b) = (a', b')) := by
  by_cases h : (a, b) = (a', b')
  · rw [decide_eq_true h]; injection h with h1 h2; simp [h1, h2]
  · rw [decide_eq_false h]; simp only [Prod.mk.injEq] at h; simpa using h
theorem equalIn_T {a b a' b' : Int} (h : (a, b) = (a', b')) (w : World) : (Op.equalIn 10000 54 (.agg #[.int .i64 a, .int .i64 b]) (.agg #[.int .i64 a', .int .i64 b'])).run Tryd.prog w = .ok true w := by
  rw [equalIn_s, eq_and, decide_eq_true h]
theorem equalIn_F {a b a' b' : Int} (h : (a, b) ≠ (a', b')) (w : World) : (Op.equalIn 10000 54 (.agg #[.int .i64 a, .int .i64 b]) (.agg #[.int .i64 a', .int .i64 b'])).run Tryd.prog w = .ok false w := by
  rw [equalIn_s, eq_and, decide_eq_false h]
set_option maxHeartbeats 1000000 in
theorem do_emA (op al ah bl bh : Int) (h1 : ah < al) (w : World) : Calls Tryd.prog 82 #[.int .i64 op, sv (al, ah), sv (bl, bh)] w fun e w' => e = .returned (.tuple #[sv (0, 0), .bool false]) ∧ Below w.heap.size w w' := by
  have HEa : Hid (∀ w, Calls Tryd.prog 91 #[.agg #[.int .i64 al, .int .i64 ah]] w fun e w' => e = .returned (.bool true) ∧ Below w.heap.size w w') := emT h1
  have hb := fun (o1 o2 o3 : Obj) => (Below.one (Below.one (Below.one (Below.refl _ w) o1) o2) o3 : Below w.heap.size w _)
  have hu : undef = Value.tuple #[] := rfl
  clear h1
  go_enter Tryd.func82, Tryd.ntmps82
  go_wp2_with (go_at_call_of 91 (Value.agg #[Value.int .i64 al, Value.int .i64 ah]); refine (HEa.out _).mono ?_; rintro e w1 ⟨rfl, hb1⟩; have A0 := At.stay (At.more (At.more (At.new w (al, ah)) _) _) hb1; have A1 := At.stay (At.more (At.new1 w (bl, bh) _) _) hb1; have A2 := At.stay (At.new2 w (0, 0) _ _) hb1; have x0 := A0.c0; have x1 := A0.c1; have y0 := A1.c0; have y1 := A1.c1; have z0 := A2.c0; have z1 := A2.c1; have z2 := A2.f0; have z3 := A2.f1)
  exact bodyPost_ret (v := .tuple #[sv (0, 0), .bool false]) (by simp [results, Tryd.results82, go_sem, *]) rfl ⟨rfl, Below.put (Below.on (hb _ _ _) hb1) (by omega) _ _⟩
set_option maxHeartbeats 1000000 in
theorem do_emB (op al ah bl bh : Int) (h1 : al ≤ ah) (h2 : bh < bl) (h3 : op ≠ 10) (w : World) : Calls Tryd.prog 82 #[.int .i64 op, sv (al, ah), sv (bl, bh)] w fun e w' => e = .returned (.tuple #[sv (0, 0), .bool false]) ∧ Below w.heap.size w w' := by
  have HEa : Hid (∀ w, Calls Tryd.prog 91 #[.agg #[.int .i64 al, .int .i64 ah]] w fun e w' => e = .returned (.bool false) ∧ Below w.heap.size w w') := emF h1
  have HEb : Hid (∀ w, Calls Tryd.prog 91 #[.agg #[.int .i64 bl, .int .i64 bh]] w fun e w' => e = .returned (.bool true) ∧ Below w.heap.size w w') := emT h2
  have hb := fun (o1 o2 o3 : Obj) => (Below.one (Below.one (Below.one (Below.refl _ w) o1) o2) o3 : Below w.heap.size w _)
  have h3' := beq_no h3
  clear h1 h2 h3
  go_enter Tryd.func82, Tryd.ntmps82
  go_wp2_with (first | (go_at_call_of 91 (Value.agg #[Value.int .i64 al, Value.int .i64 ah]); refine (HEa.out _).mono ?_; rintro e w1 ⟨rfl, hb1⟩; have A0 := At.stay (At.more (At.more (At.new w (al, ah)) _) _) hb1; have A1 := At.stay (At.more (At.new1 w (bl, bh) _) _) hb1; have A2 := At.stay (At.new2 w (0, 0) _ _) hb1; have x0 := A0.c0; have x1 := A0.c1; have y0 := A1.c0; have y1 := A1.c1; have z0 := A2.c0; have z1 := A2.c1; have z2 := A2.f0; have z3 := A2.f1) | (go_at_call_of 91 (Value.agg #[Value.int .i64 bl, Value.int .i64 bh]); refine (HEb.out _).mono ?_; rintro e w2 ⟨rfl, hb2⟩; have D0 := A0.stay hb2; have D1 := A1.stay hb2; have D2 := A2.stay hb2; have u0 := D0.c0; have u1 := D0.c1; have v0 := D1.c0; have v1 := D1.c1; have t0 := D2.c0; have t1 := D2.c1; have t2 := D2.f0; have t3 := D2.f1))
  exact bodyPost_ret (v := .tuple #[sv (0, 0), .bool false]) (by simp [results, Tryd.results82, go_sem, *]) rfl ⟨rfl, Below.put (Below.on (Below.on (hb _ _ _) hb1) hb2) (by omega) _ _⟩
set_option maxHeartbeats 1000000 in
theorem do_other (op al ah bl bh : Int) (h1 : al ≤ ah) (h2 : bl ≤ bh) (o3 : op ≠ 3) (o4 : op ≠ 4) (o5 : op ≠ 5) (o6 : op ≠ 6) (o7 : op ≠ 7) (o8 : op ≠ 8) (o9 : op ≠ 9) (o10 : op ≠ 10) (w : World) : Calls Tryd.prog 82 #[.int .i64 op, sv (al, ah), sv (bl, bh)] w fun e w' => e = .returned (.tuple #[sv (0, 0), .bool false]) ∧ Below w.heap.size w w' := by
  have HEa : Hid (∀ w, Calls Tryd.prog 91 #[.agg #[.int .i64 al, .int .i64 ah]] w fun e w' => e = .returned (.bool false) ∧ Below w.heap.size w w') := emF h1
  have HEb : Hid (∀ w, Calls Tryd.prog 91 #[.agg #[.int .i64 bl, .int .i64 bh]] w fun e w' => e = .returned (.bool false) ∧ Below w.heap.size w w') := emF h2
  have hb := fun (o1 o2 o3 : Obj) => (Below.one (Below.one (Below.one (Below.refl _ w) o1) o2) o3 : Below w.heap.size w _)
  have p3 := beq_no o3
  have p4 := beq_no o4
  have p5 := beq_no o5
  have p6 := beq_no o6
  have p7 := beq_no o7
  have p8 := beq_no o8
  have p9 := beq_no o9
  have p10 := beq_no o10
  have hu : undef = Value.tuple #[] := rfl
  clear h1 h2 o3 o4 o5 o6 o7 o8 o9 o10
  go_enter Tryd.func82, Tryd.ntmps82
  go_wp2_with (first | (go_at_call_of 91 (Value.agg #[Value.int .i64 al, Value.int .i64 ah]); refine (HEa.out _).mono ?_; rintro e w1 ⟨rfl, hb1⟩; have A0 := At.stay (At.more (At.more (At.new w (al, ah)) _) _) hb1; have A1 := At.stay (At.more (At.new1 w (bl, bh) _) _) hb1; have A2 := At.stay (At.new2 w (0, 0) _ _) hb1; have x0 := A0.c0; have x1 := A0.c1; have y0 := A1.c0; have y1 := A1.c1; have z0 := A2.c0; have z1 := A2.c1; have z2 := A2.f0; have z3 := A2.f1) | (go_at_call_of 91 (Value.agg #[Value.int .i64 bl, Value.int .i64 bh]); refine (HEb.out _).mono ?_; rintro e w2 ⟨rfl, hb2⟩; have D0 := A0.stay hb2; have D1 := A1.stay hb2; have D2 := A2.stay hb2; have u0 := D0.c0; have u1 := D0.c1; have v0 := D1.c0; have v1 := D1.c1; have t0 := D2.c0; have t1 := D2.c1; have t2 := D2.f0; have t3 := D2.f1))
  exact bodyPost_ret (v := .tuple #[sv (0, 0), .bool false]) (by simp [results, Tryd.results82, go_sem, *]) rfl ⟨rfl, Below.put (Below.on (Below.on (hb _ _ _) hb1) hb2) (by omega) _ _⟩
end Go.Proofs.YtfmkjdfidenfkaaDoor.S8
namespace Go.Proofs.YtfmkjdfidenfkaaDoor.S8
open Go.RowKit Go.Lib Go.Sort

set_option maxHeartbeats 1000000 in
theorem widen_no (al ah bl bh : Int) (ts : List Int) (a : Option Addr) (c : Nat) (h1 : ah < al) (w : World) : Calls Tryd.prog 77 #[sv (al, ah), sv (bl, bh), .slice a ts.length c] w fun e w' => e = .returned (sv (bl, bh)) ∧ Below w.heap.size w w' := by
  have HE : Hid (∀ w, Calls Tryd.prog 91 #[.agg #[.int .i64 al, .int .i64 ah]] w fun e w' => e = .returned (.bool true) ∧ Below w.heap.size w w') := emT h1
  have hb := fun (o1 o2 o3 : Obj) => (Below.one (Below.one (Below.one (Below.refl _ w) o1) o2) o3 : Below w.heap.size w _)
  clear h1
  go_enter Tryd.func77, Tryd.ntmps77
  go_wp2_with (go_at_call_of 91 (Value.agg #[Value.int .i64 al, Value.int .i64 ah]); refine (HE.out _).mono ?_; rintro e w1 ⟨rfl, hb1⟩; have A0 := At.stay (At.more (At.more (At.new w (al, ah)) _) _) hb1; have A1 := At.stay (At.more (At.new1 w (bl, bh) _) _) hb1; have A2 := At.stay (At.new2 w (0, 0) _ _) hb1; have x0 := A0.c0; have x1 := A0.c1; have y0 := A1.c0; have y1 := A1.c1; have z0 := A2.c0; have z1 := A2.c1; have z2 := A2.f0; have z3 := A2.f1)
  exact bodyPost_ret (v := sv (bl, bh)) (by simp [results, Tryd.results77, go_sem, *]) rfl ⟨rfl, Below.put (Below.on (hb _ _ _) hb1) (by omega) _ _⟩
set_option maxHeartbeats 2000000 in
theorem widen_core (al ah bl bh : Int) (ts : List Int) (a : Option Addr) (c : Nat) (h1 : al ≤ ah) (hl : ts.length < 4611686018427387904) (w : World) (ht : Ths w a ts) : Calls Tryd.prog 77 #[sv (al, ah), sv (bl, bh), .slice a ts.length c] w fun e w' => e = .returned (sv (widS (al, ah) (bl, bh) ts)) ∧ Below w.heap.size w w' := by
  have HE : Hid (∀ w, Calls Tryd.prog 91 #[.agg #[.int .i64 al, .int .i64 ah]] w fun e w' => e = .returned (.bool false) ∧ Below w.heap.size w w') := emF h1
  have HJ := Hid.mk' fun w => join_any (al, ah) (bl, bh) w
  have HW : Hid (widS (al, ah) (bl, bh) ts = (if (joinS (al, ah) (bl, bh)).1 = al then (joinS (al, ah) (bl, bh)).1 else floorN ts (joinS (al, ah) (bl, bh)).1, if (joinS (al, ah) (bl, bh)).2 = ah then (joinS (al, ah) (bl, bh)).2 else roofN ts (joinS (al, ah) (bl, bh)).2)) := if_neg (by simp only; omega)
  generalize widS (al, ah) (bl, bh) ts = R at *
  obtain ⟨R1, R2⟩ := R
  generalize joinS (al, ah) (bl, bh) = J at *
  obtain ⟨j1, j2⟩ := J
  simp only at HJ HW
  have HF : Hid (∀ w, Ths w a ts → Calls Tryd.prog 92 #[.slice a ts.length c, .int .i64 j1] w fun e w' => e = .returned (.int .i64 (floorN ts j1)) ∧ w' = w) := fun w h => floor_any ts j1 a c hl w h
  have HG : Hid (∀ w, Ths w a ts → Calls Tryd.prog 93 #[.slice a ts.length c, .int .i64 j2] w fun e w' => e = .returned (.int .i64 (roofN ts j2)) ∧ w' = w) := fun w h => roof_any ts j2 a c hl w h
  generalize floorN ts j1 = f1 at *
  generalize roofN ts j2 = f2 at *
  generalize ts.length = L at *
  have hb := fun (o1 o2 o3 : Obj) => (Below.one (Below.one (Below.one (Below.refl _ w) o1) o2) o3 : Below w.heap.size w _)
  clear h1 hl
  go_enter Tryd.func77, Tryd.ntmps77
  go_upto_region 4 with (first | (go_at_call_of 91 (Value.agg #[Value.int .i64 al, Value.int .i64 ah]); refine (HE.out _).mono ?_; rintro e w1 ⟨rfl, hb1⟩; have A0 := At.stay (At.more (At.more (At.new w (al, ah)) _) _) hb1; have A1 := At.stay (At.more (At.new1 w (bl, bh) _) _) hb1; have A2 := At.stay (At.new2 w (0, 0) _ _) hb1; have x0 := A0.c0; have x1 := A0.c1; have y0 := A1.c0; have y1 := A1.c1; have z0 := A2.c0; have z1 := A2.c1; have z2 := A2.f0; have z3 := A2.f1) | (go_at_call 76; refine (HJ.out _).mono ?_; rintro e w2 ⟨rfl, hb2⟩))
  have B := Below.one (Below.on (Below.on (hb _ _ _) hb1) hb2) (.cells #[.int .i64 j1, .int .i64 j2] 54)
  replace A0 := A0.on (.cells #[.int .i64 j1, .int .i64 j2] 54) hb2
  replace A2 := A2.on (.cells #[.int .i64 j1, .int .i64 j2] 54) hb2
  have A3 := At.new w2 (j1, j2)
  have hsz : w.heap.size + 2 < w2.heap.size := by have := hb1.size; have := hb2.size; simp only [World.size_alloc] at *; omega
  simp only at A3
  clear hb hb1 hb2 HE HJ x0 x1 y0 y1 z0 z1 z2 z3 A1
  generalize w2.alloc (.cells #[.int .i64 j1, .int .i64 j2] 54) = W at *
  generalize w2.heap.size = gO at *
  have T0 := ht.stay B
  have T1 : ∀ x, Ths (W.setCell ⟨gO, 0, none⟩ x) a ts := fun x => ht.stay (B.setCell (by simp only; omega) x)
  clear ht
  have x0 := A0.c0; have x1 := A0.c1; have z0 := A2.c0; have z1 := A2.c1; have z2 := A2.f0; have z3 := A2.f1; have u0 := A3.c0; have u1 := A3.c1; have u2 := A3.f0; have u3 := A3.f1
  have hne1 : w.heap.size + 1 + 1 ≠ gO := by omega
  have hne2 : w.heap.size ≠ gO := by omega
  have hW := HW.out
  clear HW
  by_cases e1 : j1 = al
  · by_cases e2 : j2 = ah
    · rw [if_pos e1, if_pos e2] at hW
      obtain ⟨rfl, rfl⟩ := Prod.mk.inj hW
      clear hW
      have q1 : (R1 == al) = true := by simp [e1]
      have q2 : (R2 == ah) = true := by simp [e2]
      clear e1 e2
      go_wp2_with fail
      exact bodyPost_ret (v := sv (R1, R2)) (by simp [results, Tryd.results77, go_sem, *]) rfl ⟨rfl, Below.put B (by omega) _ _⟩
    · rw [if_pos e1, if_neg e2] at hW
      obtain ⟨rfl, rfl⟩ := Prod.mk.inj hW
      clear hW
      have q1 : (R1 == al) = true := by simp [e1]
      have q2 : (j2 == ah) = false := by simp [e2]
      clear e1 e2
      go_wp2_with (go_at_call 93; refine (HG.out _ T0).mono ?_; rintro e w5 ⟨rfl, hw5⟩; rw [hw5]; clear hw5)
      exact bodyPost_ret (v := sv (R1, R2)) (by simp [results, Tryd.results77, go_sem, *]) rfl ⟨rfl, Below.put (B.setCell (by simp only; omega) _) (by omega) _ _⟩
  · by_cases e2 : j2 = ah
    · rw [if_neg e1, if_pos e2] at hW
      obtain ⟨rfl, rfl⟩ := Prod.mk.inj hW
      clear hW
      have q1 : (j1 == al) = false := by simp [e1]
      have q2 : (R2 == ah) = true := by simp [e2]
      clear e1 e2
      go_wp2_with (go_at_call 92; refine (HF.out _ T0).mono ?_; rintro e w5 ⟨rfl, hw5⟩; rw [hw5]; clear hw5)
      exact bodyPost_ret (v := sv (R1, R2)) (by simp [results, Tryd.results77, go_sem, *]) rfl ⟨rfl, Below.put (B.setCell (by simp only; omega) _) (by omega) _ _⟩
    · rw [if_neg e1, if_neg e2] at hW
      obtain ⟨rfl, rfl⟩ := Prod.mk.inj hW
      clear hW
      have q1 : (j1 == al) = false := by simp [e1]
      have q2 : (j2 == ah) = false := by simp [e2]
      clear e1 e2
      go_wp2_with (first | (go_at_call 92; refine (HF.out _ T0).mono ?_; rintro e w5 ⟨rfl, hw5⟩; rw [hw5]; clear hw5) | (go_at_call 93; refine (HG.out _ (T1 _)).mono ?_; rintro e w5 ⟨rfl, hw5⟩; rw [hw5]; clear hw5))
      exact bodyPost_ret (v := sv (R1, R2)) (by simp [results, Tryd.results77, go_sem, *]) rfl ⟨rfl, Below.put ((B.setCell (by simp only; omega) _).setCell (by simp only; omega) _) (by omega) _ _⟩
theorem widen_any (o n : Sp) (ts : List Int) (a : Option Addr) (c : Nat) (hl : ts.length < 4611686018427387904) (w : World) (ht : Ths w a ts) : Calls Tryd.prog 77 #[sv o, sv n, .slice a ts.length c] w fun e w' => e = .returned (sv (widS o n ts)) ∧ Below w.heap.size w w' := by
  obtain ⟨al, ah⟩ := o
  obtain ⟨bl, bh⟩ := n
  by_cases h : ah < al
  · rw [show widS (al, ah) (bl, bh) ts = (bl, bh) from if_pos h]
    exact widen_no al ah bl bh ts a c h w
  · exact widen_core al ah bl bh ts a c (by omega) hl w ht
end Go.Proofs.YtfmkjdfidenfkaaDoor.S8
