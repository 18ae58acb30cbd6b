/- Sums in any order. -/
import Derived.Test.YtajkfopeomfacabPart1
namespace Go.Proofs.Ytajkfopeomfacab
open Go.RowKit Go.Sort

theorem sum_room {m n : Nat} (h : m + n < noRoom) : sumN m n = m + n := if_pos h
theorem sum_none {m n : Nat} (h : ¬ m + n < noRoom) : sumN m n = 0 := if_neg h
theorem sum_lt (m n : Nat) : sumN m n < noRoom := by unfold sumN; split; assumption; unfold noRoom; omega
theorem sum_comm (m n : Nat) : sumN m n = sumN n m := by unfold sumN; rw [Nat.add_comm]
theorem cmp_neg (m n : Nat) : decide (cmpN m n < 0) = decide (m < n) := by
  unfold cmpN
  by_cases h : m = n
  · rw [if_pos h]; simp; omega
  · rw [if_neg h]
    by_cases h' : m < n
    · rw [if_pos h']; simp [h']
    · rw [if_neg h']; simp; omega
theorem cmp_pos (m n : Nat) : decide (0 ≤ cmpN m n) = decide (n ≤ m) := by
  unfold cmpN
  by_cases h : m = n
  · rw [if_pos h]; simp; omega
  · rw [if_neg h]
    by_cases h' : m < n
    · rw [if_pos h']; simp; omega
    · rw [if_neg h']; simp; omega
def top127 : Nat := 170141183460469231731687303715884105728
theorem top_v : Value.agg #[.int .u64 9223372036854775808, .int .u64 0] = .agg #[.int .u64 (hiN top127), .int .u64 (loN top127)] := rfl

set_option maxRecDepth 100000 in
set_option maxHeartbeats 2000000 in
theorem sums_any (a b c : Nat) (ha : a < noRoom) (hb : b < noRoom) (hc : c < noRoom) (w : World) : Calls Try.prog 3 #[wd a, wd b, wd c] w fun e w' => e = .returned (.bool true) ∧ Below w.heap.size w w' := by
  have HF := Hid.mk' fixed_any
  have HA1 := Hid.mk' (addV a b ha hb)
  have HA2 := Hid.mk' (addV b a hb ha)
  rw [sum_comm b a, Nat.add_comm b a] at HA2
  have HC1 := Hid.mk' (compareV (sumN a b) a (sum_lt a b) ha)
  have HC2 := Hid.mk' (compareV (sumN a b) b (sum_lt a b) hb)
  have HA3 := Hid.mk' (addV (sumN a b) c (sum_lt a b) hc)
  have HA4 := Hid.mk' (addV b c hb hc)
  have HA5 := Hid.mk' (addV a (sumN b c) ha (sum_lt b c))
  have HC3 := Hid.mk' (compareV a top127 ha (by unfold top127 noRoom; omega))
  have HC4 := Hid.mk' (compareV b top127 hb (by unfold top127 noRoom; omega))
  rw [← top_v] at HC3 HC4
  have n1 := cmp_neg (sumN a b) a
  have n2 := cmp_neg (sumN a b) b
  have n3 := cmp_pos a top127
  have n4 := cmp_pos b top127
  have g1 := eqGuard_w
  have q1 := fun w => eqV (sumN a b) (sumN a b) w
  simp only [decide_true] at q1
  rw [wd_v, wd_v, wd_v]
  by_cases h1 : a + b < noRoom
  · rw [decide_eq_true h1] at HA1 HA2
    have e1 : decide (sumN a b < a) = false := decide_eq_false (by rw [sum_room h1]; omega)
    have e2 : decide (sumN a b < b) = false := decide_eq_false (by rw [sum_room h1]; omega)
    rw [e1] at n1
    rw [e2] at n2
    clear e1 e2 n3 n4 HC3 HC4
    have HS : Hid (sumN a b = a + b) := sum_room h1
    generalize cmpN (sumN a b) a = p1 at *
    generalize cmpN (sumN a b) b = p2 at *
    go_enter Try.func3, Try.ntmps3
    go_upto_region 1 with fail
    obtain ⟨A1, A2, A3, B0⟩ := at_three w a b c _ rfl
    generalize ((w.alloc (.cells #[.int .u64 (hiN a), .int .u64 (loN a)] 24)).alloc (.cells #[.int .u64 (hiN b), .int .u64 (loN b)] 24)).alloc (.cells #[.int .u64 (hiN c), .int .u64 (loN c)] 24) = W0 at *
    have z10 := A1.c0; have z11 := A1.c1; have z20 := A2.c0; have z21 := A2.c1; have z30 := A3.c0; have z31 := A3.c1
    go_upto_region 2 with (go_at_call 5; refine (HA1.out _).mono ?_; rintro e w1 ⟨rfl, hb1⟩)
    clear z10 z11 z20 z21 z30 z31
    replace A1 := A1.on (.cells #[.int .u64 (hiN (sumN a b)), .int .u64 (loN (sumN a b))] 24) hb1
    replace A2 := A2.on (.cells #[.int .u64 (hiN (sumN a b)), .int .u64 (loN (sumN a b))] 24) hb1
    replace A3 := A3.on (.cells #[.int .u64 (hiN (sumN a b)), .int .u64 (loN (sumN a b))] 24) hb1
    have A4 := At.new w1 (sumN a b)
    have B1 := Below.one (Below.on B0 hb1) (.cells #[.int .u64 (hiN (sumN a b)), .int .u64 (loN (sumN a b))] 24)
    clear hb1 B0
    generalize w1.alloc (.cells #[.int .u64 (hiN (sumN a b)), .int .u64 (loN (sumN a b))] 24) = W1 at *
    generalize w1.heap.size = g4 at *
    have z10 := A1.c0; have z11 := A1.c1; have z20 := A2.c0; have z21 := A2.c1; have z30 := A3.c0; have z31 := A3.c1; have z40 := A4.c0; have z41 := A4.c1
    go_upto_region 3 with (go_at_call 5; refine (HA2.out _).mono ?_; rintro e w2 ⟨rfl, hb2⟩)
    clear z10 z11 z20 z21 z30 z31 z40 z41
    replace A1 := A1.on (.cells #[.int .u64 (hiN (sumN a b)), .int .u64 (loN (sumN a b))] 24) hb2
    replace A2 := A2.on (.cells #[.int .u64 (hiN (sumN a b)), .int .u64 (loN (sumN a b))] 24) hb2
    replace A3 := A3.on (.cells #[.int .u64 (hiN (sumN a b)), .int .u64 (loN (sumN a b))] 24) hb2
    replace A4 := A4.on (.cells #[.int .u64 (hiN (sumN a b)), .int .u64 (loN (sumN a b))] 24) hb2
    have A5 := At.new w2 (sumN a b)
    have B2 := Below.one (Below.on B1 hb2) (.cells #[.int .u64 (hiN (sumN a b)), .int .u64 (loN (sumN a b))] 24)
    clear hb2 B1
    generalize w2.alloc (.cells #[.int .u64 (hiN (sumN a b)), .int .u64 (loN (sumN a b))] 24) = W2 at *
    generalize w2.heap.size = g5 at *
    go_upto_region 5 with (first | (go_at_call 6; refine (HF.out _).mono ?_; rintro e w3 ⟨rfl, hb3⟩; have X1 := A1.stay hb3; have X10 := X1.c0; have X11 := X1.c1; have X2 := A2.stay hb3; have X20 := X2.c0; have X21 := X2.c1; have X3 := A3.stay hb3; have X30 := X3.c0; have X31 := X3.c1; have X4 := A4.stay hb3; have X40 := X4.c0; have X41 := X4.c1; have X5 := A5.stay hb3; have X50 := X5.c0; have X51 := X5.c1) | (go_at_call_of 7 (Value.agg #[Value.int .u64 ((hiN a : Nat) : Int), Value.int .u64 ((loN a : Nat) : Int)]); refine (HC1.out _).mono ?_; rintro e w4 ⟨rfl, hb4⟩; have Y1 := X1.stay hb4; have Y10 := Y1.c0; have Y11 := Y1.c1; have Y2 := X2.stay hb4; have Y20 := Y2.c0; have Y21 := Y2.c1; have Y3 := X3.stay hb4; have Y30 := Y3.c0; have Y31 := Y3.c1; have Y4 := X4.stay hb4; have Y40 := Y4.c0; have Y41 := Y4.c1; have Y5 := X5.stay hb4; have Y50 := Y5.c0; have Y51 := Y5.c1) | (go_at_call_of 7 (Value.agg #[Value.int .u64 ((hiN b : Nat) : Int), Value.int .u64 ((loN b : Nat) : Int)]); refine (HC2.out _).mono ?_; rintro e w5 ⟨rfl, hb5⟩; have V1 := Y1.stay hb5; have V10 := V1.c0; have V11 := V1.c1; have V2 := Y2.stay hb5; have V20 := V2.c0; have V21 := V2.c1; have V3 := Y3.stay hb5; have V30 := V3.c0; have V31 := V3.c1; have V4 := Y4.stay hb5; have V40 := V4.c0; have V41 := V4.c1))
    have B5 := Below.on (Below.on (Below.on B2 hb3) hb4) hb5
    clear X1 X10 X11 Y1 Y10 Y11 X2 X20 X21 Y2 Y20 Y21 X3 X30 X31 Y3 Y30 Y31 X4 X40 X41 Y4 Y40 Y41 X5 X50 X51 Y5 Y50 Y51 A1 A2 A3 A4 A5 hb3 hb4 hb5 B2
    have A1 := V1; have A2 := V2; have A3 := V3; have A4 := V4
    clear V1 V2 V3 V4 V10 V11 V20 V21 V30 V31 V40 V41
    by_cases h2 : b + c < noRoom
    · rw [decide_eq_true h2] at HA4
      have e5 : sumN a (sumN b c) = sumN (sumN a b) c := by rw [sum_room h1, sum_room h2]; unfold sumN; rw [Nat.add_assoc]
      have e6 : a + sumN b c = sumN a b + c := by rw [sum_room h1, sum_room h2, Nat.add_assoc]
      rw [e5, e6] at HA5
      clear e5 e6
      have q2 := fun w => eqV (sumN (sumN a b) c) (sumN (sumN a b) c) w
      simp only [decide_true] at q2
      generalize decide (sumN a b + c < noRoom) = D at *
      have z10 := A1.c0; have z11 := A1.c1; have z20 := A2.c0; have z21 := A2.c1; have z30 := A3.c0; have z31 := A3.c1; have z40 := A4.c0; have z41 := A4.c1
      go_upto_region 8 with (go_at_call 5; refine (HA3.out _).mono ?_; rintro e w7 ⟨rfl, hb7⟩)
      clear z10 z11 z20 z21 z30 z31 z40 z41
      replace A1 := A1.on (.cells #[.int .u64 (hiN (sumN (sumN a b) c)), .int .u64 (loN (sumN (sumN a b) c))] 24) hb7
      replace A2 := A2.on (.cells #[.int .u64 (hiN (sumN (sumN a b) c)), .int .u64 (loN (sumN (sumN a b) c))] 24) hb7
      replace A3 := A3.on (.cells #[.int .u64 (hiN (sumN (sumN a b) c)), .int .u64 (loN (sumN (sumN a b) c))] 24) hb7
      replace A4 := A4.on (.cells #[.int .u64 (hiN (sumN (sumN a b) c)), .int .u64 (loN (sumN (sumN a b) c))] 24) hb7
      have A6 := At.new w7 (sumN (sumN a b) c)
      have B7 := Below.one (Below.on B5 hb7) (.cells #[.int .u64 (hiN (sumN (sumN a b) c)), .int .u64 (loN (sumN (sumN a b) c))] 24)
      clear hb7 B5
      generalize w7.alloc (.cells #[.int .u64 (hiN (sumN (sumN a b) c)), .int .u64 (loN (sumN (sumN a b) c))] 24) = W7 at *
      generalize w7.heap.size = g6 at *
      have z10 := A1.c0; have z11 := A1.c1; have z20 := A2.c0; have z21 := A2.c1; have z30 := A3.c0; have z31 := A3.c1; have z60 := A6.c0; have z61 := A6.c1
      go_upto_region 11 with (go_at_call 5; refine (HA4.out _).mono ?_; rintro e w8 ⟨rfl, hb8⟩)
      clear z10 z11 z20 z21 z30 z31 z60 z61
      replace A1 := A1.on (.cells #[.int .u64 (hiN (sumN b c)), .int .u64 (loN (sumN b c))] 24) hb8
      replace A2 := A2.on (.cells #[.int .u64 (hiN (sumN b c)), .int .u64 (loN (sumN b c))] 24) hb8
      replace A3 := A3.on (.cells #[.int .u64 (hiN (sumN b c)), .int .u64 (loN (sumN b c))] 24) hb8
      replace A6 := A6.on (.cells #[.int .u64 (hiN (sumN b c)), .int .u64 (loN (sumN b c))] 24) hb8
      have A7 := At.new w8 (sumN b c)
      have B8 := Below.one (Below.on B7 hb8) (.cells #[.int .u64 (hiN (sumN b c)), .int .u64 (loN (sumN b c))] 24)
      clear hb8 B7
      generalize w8.alloc (.cells #[.int .u64 (hiN (sumN b c)), .int .u64 (loN (sumN b c))] 24) = W8 at *
      generalize w8.heap.size = g7 at *
      have z10 := A1.c0; have z11 := A1.c1; have z20 := A2.c0; have z21 := A2.c1; have z60 := A6.c0; have z61 := A6.c1; have z70 := A7.c0; have z71 := A7.c1
      go_upto_region 12 with (go_at_call 5; refine (HA5.out _).mono ?_; rintro e w9 ⟨rfl, hb9⟩)
      clear z10 z11 z20 z21 z60 z61 z70 z71
      replace A1 := A1.on (.cells #[.int .u64 (hiN (sumN (sumN a b) c)), .int .u64 (loN (sumN (sumN a b) c))] 24) hb9
      replace A2 := A2.on (.cells #[.int .u64 (hiN (sumN (sumN a b) c)), .int .u64 (loN (sumN (sumN a b) c))] 24) hb9
      replace A6 := A6.on (.cells #[.int .u64 (hiN (sumN (sumN a b) c)), .int .u64 (loN (sumN (sumN a b) c))] 24) hb9
      replace A7 := A7.on (.cells #[.int .u64 (hiN (sumN (sumN a b) c)), .int .u64 (loN (sumN (sumN a b) c))] 24) hb9
      have A8 := At.new w9 (sumN (sumN a b) c)
      have B9 := Below.one (Below.on B8 hb9) (.cells #[.int .u64 (hiN (sumN (sumN a b) c)), .int .u64 (loN (sumN (sumN a b) c))] 24)
      clear hb9 B8
      generalize w9.alloc (.cells #[.int .u64 (hiN (sumN (sumN a b) c)), .int .u64 (loN (sumN (sumN a b) c))] 24) = W9 at *
      generalize w9.heap.size = g8 at *
      have z60 := A6.c0; have z61 := A6.c1; have z80 := A8.c0; have z81 := A8.c1
      cases D
      all_goals
        go_wp2_with fail
        go_ret
        exact ⟨rfl, B9⟩
    · rw [decide_eq_false h2] at HA4
      have e6 : decide (sumN a b + c < noRoom) = false := decide_eq_false (by rw [sum_room h1]; omega)
      rw [e6] at HA3
      clear e6
      have z10 := A1.c0; have z11 := A1.c1; have z20 := A2.c0; have z21 := A2.c1; have z30 := A3.c0; have z31 := A3.c1; have z40 := A4.c0; have z41 := A4.c1
      go_upto_region 8 with (go_at_call 5; refine (HA3.out _).mono ?_; rintro e w7 ⟨rfl, hb7⟩)
      clear z10 z11 z20 z21 z30 z31 z40 z41
      replace A1 := A1.on (.cells #[.int .u64 (hiN (sumN (sumN a b) c)), .int .u64 (loN (sumN (sumN a b) c))] 24) hb7
      replace A2 := A2.on (.cells #[.int .u64 (hiN (sumN (sumN a b) c)), .int .u64 (loN (sumN (sumN a b) c))] 24) hb7
      replace A3 := A3.on (.cells #[.int .u64 (hiN (sumN (sumN a b) c)), .int .u64 (loN (sumN (sumN a b) c))] 24) hb7
      replace A4 := A4.on (.cells #[.int .u64 (hiN (sumN (sumN a b) c)), .int .u64 (loN (sumN (sumN a b) c))] 24) hb7
      have A6 := At.new w7 (sumN (sumN a b) c)
      have B7 := Below.one (Below.on B5 hb7) (.cells #[.int .u64 (hiN (sumN (sumN a b) c)), .int .u64 (loN (sumN (sumN a b) c))] 24)
      clear hb7 B5
      generalize w7.alloc (.cells #[.int .u64 (hiN (sumN (sumN a b) c)), .int .u64 (loN (sumN (sumN a b) c))] 24) = W7 at *
      generalize w7.heap.size = g6 at *
      have z20 := A2.c0; have z21 := A2.c1; have z30 := A3.c0; have z31 := A3.c1
      go_wp2_with (go_at_call 5; refine (HA4.out _).mono ?_; rintro e w8 ⟨rfl, hb8⟩)
      go_ret
      exact ⟨rfl, Below.one (Below.on B7 hb8) _⟩
  · rw [decide_eq_false h1] at HA1 HA2
    clear n1 n2 HC1 HC2 HA3 HA4 HA5
    have hor : ¬ top127 ≤ a → top127 ≤ b := by unfold top127; unfold noRoom at h1; omega
    go_enter Try.func3, Try.ntmps3
    go_upto_region 1 with fail
    obtain ⟨A1, A2, A3, B0⟩ := at_three w a b c _ rfl
    generalize ((w.alloc (.cells #[.int .u64 (hiN a), .int .u64 (loN a)] 24)).alloc (.cells #[.int .u64 (hiN b), .int .u64 (loN b)] 24)).alloc (.cells #[.int .u64 (hiN c), .int .u64 (loN c)] 24) = W0 at *
    have z10 := A1.c0; have z11 := A1.c1; have z20 := A2.c0; have z21 := A2.c1
    go_upto_region 2 with (go_at_call 5; refine (HA1.out _).mono ?_; rintro e w1 ⟨rfl, hb1⟩)
    clear z10 z11 z20 z21
    replace A1 := A1.on (.cells #[.int .u64 (hiN (sumN a b)), .int .u64 (loN (sumN a b))] 24) hb1
    replace A2 := A2.on (.cells #[.int .u64 (hiN (sumN a b)), .int .u64 (loN (sumN a b))] 24) hb1
    have A4 := At.new w1 (sumN a b)
    have B1 := Below.one (Below.on B0 hb1) (.cells #[.int .u64 (hiN (sumN a b)), .int .u64 (loN (sumN a b))] 24)
    clear hb1 B0
    generalize w1.alloc (.cells #[.int .u64 (hiN (sumN a b)), .int .u64 (loN (sumN a b))] 24) = W1 at *
    generalize w1.heap.size = g4 at *
    have z10 := A1.c0; have z11 := A1.c1; have z20 := A2.c0; have z21 := A2.c1; have z40 := A4.c0; have z41 := A4.c1
    go_upto_region 3 with (go_at_call 5; refine (HA2.out _).mono ?_; rintro e w2 ⟨rfl, hb2⟩)
    clear z10 z11 z20 z21 z40 z41
    replace A1 := A1.on (.cells #[.int .u64 (hiN (sumN a b)), .int .u64 (loN (sumN a b))] 24) hb2
    replace A2 := A2.on (.cells #[.int .u64 (hiN (sumN a b)), .int .u64 (loN (sumN a b))] 24) hb2
    replace A4 := A4.on (.cells #[.int .u64 (hiN (sumN a b)), .int .u64 (loN (sumN a b))] 24) hb2
    have A5 := At.new w2 (sumN a b)
    have B2 := Below.one (Below.on B1 hb2) (.cells #[.int .u64 (hiN (sumN a b)), .int .u64 (loN (sumN a b))] 24)
    clear hb2 B1
    generalize w2.alloc (.cells #[.int .u64 (hiN (sumN a b)), .int .u64 (loN (sumN a b))] 24) = W2 at *
    generalize w2.heap.size = g5 at *
    by_cases h3 : top127 ≤ a
    · rw [decide_eq_true h3] at n3
      clear n4 hor h3
      generalize cmpN a top127 = p3 at *
      go_wp2_with (first | (go_at_call 6; refine (HF.out _).mono ?_; rintro e w3 ⟨rfl, hb3⟩; have X1 := A1.stay hb3; have X10 := X1.c0; have X11 := X1.c1; have X2 := A2.stay hb3; have X20 := X2.c0; have X21 := X2.c1; have X4 := A4.stay hb3; have X40 := X4.c0; have X41 := X4.c1; have X5 := A5.stay hb3; have X50 := X5.c0; have X51 := X5.c1) | (go_at_call_of 7 (Value.agg #[Value.int .u64 ((hiN a : Nat) : Int), Value.int .u64 ((loN a : Nat) : Int)]); refine (HC3.out _).mono ?_; rintro e w4 ⟨rfl, hb4⟩; have Y2 := X2.stay hb4; have Y20 := Y2.c0; have Y21 := Y2.c1) | (go_at_call_of 7 (Value.agg #[Value.int .u64 ((hiN b : Nat) : Int), Value.int .u64 ((loN b : Nat) : Int)]); refine (HC4.out _).mono ?_; rintro e w5 ⟨rfl, hb5⟩))
      go_ret
      exact ⟨rfl, Below.on (Below.on B2 hb3) hb4⟩
    · rw [decide_eq_false h3] at n3
      rw [decide_eq_true (hor h3)] at n4
      clear hor h3
      generalize cmpN a top127 = p3 at *
      generalize cmpN b top127 = p4 at *
      go_wp2_with (first | (go_at_call 6; refine (HF.out _).mono ?_; rintro e w3 ⟨rfl, hb3⟩; have X1 := A1.stay hb3; have X10 := X1.c0; have X11 := X1.c1; have X2 := A2.stay hb3; have X20 := X2.c0; have X21 := X2.c1; have X4 := A4.stay hb3; have X40 := X4.c0; have X41 := X4.c1; have X5 := A5.stay hb3; have X50 := X5.c0; have X51 := X5.c1) | (go_at_call_of 7 (Value.agg #[Value.int .u64 ((hiN a : Nat) : Int), Value.int .u64 ((loN a : Nat) : Int)]); refine (HC3.out _).mono ?_; rintro e w4 ⟨rfl, hb4⟩; have Y2 := X2.stay hb4; have Y20 := Y2.c0; have Y21 := Y2.c1) | (go_at_call_of 7 (Value.agg #[Value.int .u64 ((hiN b : Nat) : Int), Value.int .u64 ((loN b : Nat) : Int)]); refine (HC4.out _).mono ?_; rintro e w5 ⟨rfl, hb5⟩))
      go_ret
      exact ⟨rfl, Below.on (Below.on (Below.on B2 hb3) hb4) hb5⟩
end Go.Proofs.Ytajkfopeomfacab

/- A product of a sum. -/
namespace Go.Proofs.Ytajkfopeomfacab
open Go.RowKit Go.Sort

theorem times_lt (m n : Nat) : timesN m n < noRoom := by unfold timesN; split; assumption; unfold noRoom; omega
theorem lo_lt (a : Nat) : loN a < 18446744073709551616 := Nat.mod_lt _ (by omega)
set_option maxRecDepth 100000 in
set_option maxHeartbeats 2000000 in
theorem spreads_any (a b n : Nat) (ha : a < noRoom) (hb : b < noRoom) (hn : n < 18446744073709551616) (w : World) : Calls Try.prog 4 #[wd a, wd b, .int .u64 n] w fun e w' => e = .returned (.bool true) ∧ Below w.heap.size w w' := by
  have HF := Hid.mk' fixed_any
  have HA1 := Hid.mk' (addV a b ha hb)
  have HT1 := Hid.mk' (timesV a n ha hn)
  have HT2 := Hid.mk' (timesV b n hb hn)
  have HO := Hid.mk' (ofV (loN a) (lo_lt a))
  have hp : loN a * n < noRoom := prod_lt (lo_lt a) hn
  have HT3 := Hid.mk' (timesV (loN a) n (by have := lo_lt a; unfold noRoom; omega) hn)
  rw [show timesN (loN a) n = loN a * n from if_pos hp, decide_eq_true hp] at HT3
  have HM := Hid.mk' (mulV (loN a) n (lo_lt a) hn)
  have HA2 := Hid.mk' (addV (timesN a n) (timesN b n) (times_lt a n) (times_lt b n))
  have HT4 := Hid.mk' (timesV (sumN a b) n (sum_lt a b) hn)
  have g1 := eqGuard_w
  have q1 := fun w => eqV (loN a * n) (loN a * n) w
  simp only [decide_true] at q1
  obtain ⟨D1, hD1⟩ : ∃ D, D = decide (a + b < noRoom) := ⟨_, rfl⟩
  obtain ⟨D2, hD2⟩ : ∃ D, D = decide (a * n < noRoom) := ⟨_, rfl⟩
  obtain ⟨D3, hD3⟩ : ∃ D, D = decide (b * n < noRoom) := ⟨_, rfl⟩
  rw [← hD1] at HA1
  rw [← hD2] at HT1
  rw [← hD3] at HT2
  have HD := Hid.mk' (And.intro hD1 (And.intro hD2 hD3))
  clear hD1 hD2 hD3 hp
  rw [wd_v, wd_v]
  go_enter Try.func4, Try.ntmps4
  go_upto_region 1 with fail
  obtain ⟨A1, A2, B0⟩ := at_two w a b _ rfl
  generalize (w.alloc (.cells #[.int .u64 (hiN a), .int .u64 (loN a)] 24)).alloc (.cells #[.int .u64 (hiN b), .int .u64 (loN b)] 24) = W0 at *
  have z10 := A1.c0; have z11 := A1.c1; have z20 := A2.c0; have z21 := A2.c1
  go_upto_region 2 with (go_at_call 5; refine (HA1.out _).mono ?_; rintro e w1 ⟨rfl, hb1⟩)
  clear z10 z11 z20 z21
  replace A1 := A1.on (.cells #[.int .u64 (hiN (sumN a b)), .int .u64 (loN (sumN a b))] 24) hb1
  replace A2 := A2.on (.cells #[.int .u64 (hiN (sumN a b)), .int .u64 (loN (sumN a b))] 24) hb1
  have A3 := At.new w1 (sumN a b)
  have B1 := Below.one (Below.on B0 hb1) (.cells #[.int .u64 (hiN (sumN a b)), .int .u64 (loN (sumN a b))] 24)
  clear hb1 B0
  generalize w1.alloc (.cells #[.int .u64 (hiN (sumN a b)), .int .u64 (loN (sumN a b))] 24) = W1 at *
  generalize w1.heap.size = g3 at *
  have z10 := A1.c0; have z11 := A1.c1; have z20 := A2.c0; have z21 := A2.c1; have z30 := A3.c0; have z31 := A3.c1
  go_upto_region 3 with (go_at_call 8; refine (HT1.out _).mono ?_; rintro e w2 ⟨rfl, hb2⟩)
  clear z10 z11 z20 z21 z30 z31
  replace A1 := A1.on (.cells #[.int .u64 (hiN (timesN a n)), .int .u64 (loN (timesN a n))] 24) hb2
  replace A2 := A2.on (.cells #[.int .u64 (hiN (timesN a n)), .int .u64 (loN (timesN a n))] 24) hb2
  replace A3 := A3.on (.cells #[.int .u64 (hiN (timesN a n)), .int .u64 (loN (timesN a n))] 24) hb2
  have A4 := At.new w2 (timesN a n)
  have B2 := Below.one (Below.on B1 hb2) (.cells #[.int .u64 (hiN (timesN a n)), .int .u64 (loN (timesN a n))] 24)
  clear hb2 B1
  generalize w2.alloc (.cells #[.int .u64 (hiN (timesN a n)), .int .u64 (loN (timesN a n))] 24) = W2 at *
  generalize w2.heap.size = g4 at *
  have z10 := A1.c0; have z11 := A1.c1; have z20 := A2.c0; have z21 := A2.c1; have z30 := A3.c0; have z31 := A3.c1; have z40 := A4.c0; have z41 := A4.c1
  go_upto_region 4 with (go_at_call 8; refine (HT2.out _).mono ?_; rintro e w3 ⟨rfl, hb3⟩)
  clear z10 z11 z20 z21 z30 z31 z40 z41
  replace A1 := A1.on (.cells #[.int .u64 (hiN (timesN b n)), .int .u64 (loN (timesN b n))] 24) hb3
  replace A2 := A2.on (.cells #[.int .u64 (hiN (timesN b n)), .int .u64 (loN (timesN b n))] 24) hb3
  replace A3 := A3.on (.cells #[.int .u64 (hiN (timesN b n)), .int .u64 (loN (timesN b n))] 24) hb3
  replace A4 := A4.on (.cells #[.int .u64 (hiN (timesN b n)), .int .u64 (loN (timesN b n))] 24) hb3
  have A5 := At.new w3 (timesN b n)
  have B3 := Below.one (Below.on B2 hb3) (.cells #[.int .u64 (hiN (timesN b n)), .int .u64 (loN (timesN b n))] 24)
  clear hb3 B2
  generalize w3.alloc (.cells #[.int .u64 (hiN (timesN b n)), .int .u64 (loN (timesN b n))] 24) = W3 at *
  generalize w3.heap.size = g5 at *
  have z10 := A1.c0; have z11 := A1.c1; have z30 := A3.c0; have z31 := A3.c1; have z40 := A4.c0; have z41 := A4.c1; have z50 := A5.c0; have z51 := A5.c1
  go_upto_region 5 with (first | (go_at_call 9; refine (HO.out _).mono ?_; rintro e w4 ⟨rfl, hb4⟩) | (go_at_call 8; refine (HT3.out _).mono ?_; rintro e w5 ⟨rfl, hb5⟩))
  clear z10 z11 z30 z31 z40 z41 z50 z51
  have hb45 := Below.on hb4 hb5
  clear hb4 hb5
  replace A1 := A1.on (.cells #[.int .u64 (hiN (loN a * n)), .int .u64 (loN (loN a * n))] 24) hb45
  replace A3 := A3.on (.cells #[.int .u64 (hiN (loN a * n)), .int .u64 (loN (loN a * n))] 24) hb45
  replace A4 := A4.on (.cells #[.int .u64 (hiN (loN a * n)), .int .u64 (loN (loN a * n))] 24) hb45
  replace A5 := A5.on (.cells #[.int .u64 (hiN (loN a * n)), .int .u64 (loN (loN a * n))] 24) hb45
  have A6 := At.new w5 (loN a * n)
  have B5 := Below.one (Below.on B3 hb45) (.cells #[.int .u64 (hiN (loN a * n)), .int .u64 (loN (loN a * n))] 24)
  clear hb45 B3 A2
  generalize w5.alloc (.cells #[.int .u64 (hiN (loN a * n)), .int .u64 (loN (loN a * n))] 24) = W5 at *
  generalize w5.heap.size = g6 at *
  have y11 := A1.r1; have y60 := A6.r0; have y61 := A6.r1
  have HS : Hid (∀ d os, Below W5.heap.size W5 (grow (redrawn W5 d) os)) := fun d os => below_regrown _ d os
  refine wp_region_quiet_below (by kernel_rfl) (by kernel_rfl) ?_
  repeat (go_big_quiet_step (first | (go_at_call 6; with_reducible exact Calls.regrown_of (HF.out _)) | (go_at_call 10; with_reducible exact Calls.regrown_of (HM.out _))))
  refine wpQuiet_nil ?_
  intro _ hw'
  obtain ⟨⟨dq, osq⟩, hw''⟩ := hw'
  subst hw''
  have hq := HS.out dq osq
  replace A3 := A3.stay hq
  replace A4 := A4.stay hq
  replace A5 := A5.stay hq
  have B6 := Below.on B5 hq
  clear y11 y60 y61 HS hq A1 A6 B5
  generalize grow (redrawn W5 dq) osq = W6 at *
  cases D1
  · go_wp2_with fail
    go_ret
    exact ⟨rfl, B6⟩
  cases D2
  · go_wp2_with fail
    go_ret
    exact ⟨rfl, B6⟩
  cases D3
  · go_wp2_with fail
    go_ret
    exact ⟨rfl, B6⟩
  have h1 : a + b < noRoom := of_decide_eq_true HD.out.1.symm
  have h2 : a * n < noRoom := of_decide_eq_true HD.out.2.1.symm
  have h3 : b * n < noRoom := of_decide_eq_true HD.out.2.2.symm
  have e1 : sumN (timesN a n) (timesN b n) = timesN (sumN a b) n := by
    rw [sum_room h1, show timesN a n = a * n from if_pos h2, show timesN b n = b * n from if_pos h3]
    unfold sumN timesN
    rw [Nat.add_mul]
  have e2 : timesN a n + timesN b n = sumN a b * n := by
    rw [sum_room h1, show timesN a n = a * n from if_pos h2, show timesN b n = b * n from if_pos h3, Nat.add_mul]
  rw [e1, e2] at HA2
  clear h1 h2 h3 e1 e2
  have q2 := fun w => eqV (timesN (sumN a b) n) (timesN (sumN a b) n) w
  simp only [decide_true] at q2
  generalize decide (sumN a b * n < noRoom) = D at *
  have z30 := A3.c0; have z31 := A3.c1; have z40 := A4.c0; have z41 := A4.c1; have z50 := A5.c0; have z51 := A5.c1
  go_upto_region 10 with (go_at_call 5; refine (HA2.out _).mono ?_; rintro e w7 ⟨rfl, hb7⟩)
  clear z30 z31 z40 z41 z50 z51
  replace A3 := A3.on (.cells #[.int .u64 (hiN (timesN (sumN a b) n)), .int .u64 (loN (timesN (sumN a b) n))] 24) hb7
  replace A4 := A4.on (.cells #[.int .u64 (hiN (timesN (sumN a b) n)), .int .u64 (loN (timesN (sumN a b) n))] 24) hb7
  replace A5 := A5.on (.cells #[.int .u64 (hiN (timesN (sumN a b) n)), .int .u64 (loN (timesN (sumN a b) n))] 24) hb7
  have A7 := At.new w7 (timesN (sumN a b) n)
  have B7 := Below.one (Below.on B6 hb7) (.cells #[.int .u64 (hiN (timesN (sumN a b) n)), .int .u64 (loN (timesN (sumN a b) n))] 24)
  clear hb7 B6
  generalize w7.alloc (.cells #[.int .u64 (hiN (timesN (sumN a b) n)), .int .u64 (loN (timesN (sumN a b) n))] 24) = W7 at *
  generalize w7.heap.size = g7 at *
  have z30 := A3.c0; have z31 := A3.c1; have z70 := A7.c0; have z71 := A7.c1
  go_upto_region 11 with (go_at_call 8; refine (HT4.out _).mono ?_; rintro e w8 ⟨rfl, hb8⟩)
  clear z30 z31 z70 z71
  replace A3 := A3.on (.cells #[.int .u64 (hiN (timesN (sumN a b) n)), .int .u64 (loN (timesN (sumN a b) n))] 24) hb8
  replace A7 := A7.on (.cells #[.int .u64 (hiN (timesN (sumN a b) n)), .int .u64 (loN (timesN (sumN a b) n))] 24) hb8
  have A8 := At.new w8 (timesN (sumN a b) n)
  have B8 := Below.one (Below.on B7 hb8) (.cells #[.int .u64 (hiN (timesN (sumN a b) n)), .int .u64 (loN (timesN (sumN a b) n))] 24)
  clear hb8 B7
  generalize w8.alloc (.cells #[.int .u64 (hiN (timesN (sumN a b) n)), .int .u64 (loN (timesN (sumN a b) n))] 24) = W8 at *
  generalize w8.heap.size = g8 at *
  have z70 := A7.c0; have z71 := A7.c1; have z80 := A8.c0; have z81 := A8.c1
  cases D
  all_goals
    go_wp2_with fail
    go_ret
    exact ⟨rfl, B8⟩
end Go.Proofs.Ytajkfopeomfacab
