/- Spans are compared; what Do tells of nothing. -/
import Derived.Test.YtbepapbfohfdkaaPart2
import Derived.Lib.Mul64
import Derived.Laws.Bits64b
namespace Go.Proofs.Ytbepapbfohfdkaa
open Go.RowKit Go.Lib Go.Sort

theorem emF {l h : Int} (H : l ≤ h) (w : World) : Calls Try.prog 27 #[.agg #[.int .i64 l, .int .i64 h]] w fun e w' => e = .returned (.bool false) ∧ Below w.heap.size w w' := by
  have := empV l h w
  rwa [decide_eq_false (by omega)] at this
theorem emT {l h : Int} (H : h < l) (w : World) : Calls Try.prog 27 #[.agg #[.int .i64 l, .int .i64 h]] w fun e w' => e = .returned (.bool true) ∧ Below w.heap.size w w' := by
  have := empV l h w
  rwa [decide_eq_true H] at this
theorem eqGuard_s (w : World) (op : BinOp) (a b : Operand) (xs ys : Array Value) : (eqGuard op 23 a b (.agg xs) (.agg ys)).run Try.prog w = .ok () w := run_eqGuard_agg w op 23 a b xs ys (by kernel_rfl)
theorem equalIn_s (a b a' b' : Int) (w : World) : (Op.equalIn 10000 23 (.agg #[.int .i64 a, .int .i64 b]) (.agg #[.int .i64 a', .int .i64 b'])).run Try.prog w = .ok (a == a' && b == b') w := by
  have u3 := Try.underlying2
  have a3 := Try.isAgg2
  have z3 := Try.sizeOf2
  have hS : Try.prog.underlying 23 = some (.struct (Try.prog.fieldsOf 23)) := by kernel_rfl
  have hp : Try.prog.stoodInHeld 23 = false := by kernel_rfl
  rw [show (10000 : Nat) = 9999 + 1 from rfl, run_equalIn_agg w 9999 23 _ _ hS hp]
  simp only [Program.fieldsOf, Try.underlying23]
  go_simp
  by_cases h1 : a = a' <;> by_cases h2 : b = b' <;> simp [h1, h2]
theorem eq_and {a b a' b' : Int} : (a == a' && b == b') = decide ((a, b) = (a', b')) := by
  by_cases h : (a, b) = (a', b')
  · rw [decide_eq_true h]; injection h with h1 h2; simp [h1, h2]
  · rw [decide_eq_false h]; simp only [Prod.mk.injEq] at h; simpa using h
theorem equalIn_T {a b a' b' : Int} (h : (a, b) = (a', b')) (w : World) : (Op.equalIn 10000 23 (.agg #[.int .i64 a, .int .i64 b]) (.agg #[.int .i64 a', .int .i64 b'])).run Try.prog w = .ok true w := by
  rw [equalIn_s, eq_and, decide_eq_true h]
theorem equalIn_F {a b a' b' : Int} (h : (a, b) ≠ (a', b')) (w : World) : (Op.equalIn 10000 23 (.agg #[.int .i64 a, .int .i64 b]) (.agg #[.int .i64 a', .int .i64 b'])).run Try.prog w = .ok false w := by
  rw [equalIn_s, eq_and, decide_eq_false h]
set_option maxHeartbeats 1000000 in
theorem do_emA (op al ah bl bh : Int) (h1 : ah < al) (w : World) : Calls Try.prog 20 #[.int .i64 op, sv (al, ah), sv (bl, bh)] w fun e w' => e = .returned (.tuple #[sv (0, 0), .bool false]) ∧ Below w.heap.size w w' := by
  have HEa : Hid (∀ w, Calls Try.prog 27 #[.agg #[.int .i64 al, .int .i64 ah]] w fun e w' => e = .returned (.bool true) ∧ Below w.heap.size w w') := emT h1
  have hb := fun (o1 o2 o3 : Obj) => (Below.one (Below.one (Below.one (Below.refl _ w) o1) o2) o3 : Below w.heap.size w _)
  have hu : undef = Value.tuple #[] := rfl
  clear h1
  go_enter Try.func20, Try.ntmps20
  go_wp2_with (go_at_call_of 27 (Value.agg #[Value.int .i64 al, Value.int .i64 ah]); refine (HEa.out _).mono ?_; rintro e w1 ⟨rfl, hb1⟩; have A0 := At.stay (At.more (At.more (At.new w (al, ah)) _) _) hb1; have A1 := At.stay (At.more (At.new1 w (bl, bh) _) _) hb1; have A2 := At.stay (At.new2 w (0, 0) _ _) hb1; have x0 := A0.c0; have x1 := A0.c1; have y0 := A1.c0; have y1 := A1.c1; have z0 := A2.c0; have z1 := A2.c1; have z2 := A2.f0; have z3 := A2.f1)
  exact bodyPost_ret (v := .tuple #[sv (0, 0), .bool false]) (by simp [results, Try.results20, go_sem, *]) rfl ⟨rfl, Below.put (Below.on (hb _ _ _) hb1) (by omega) _ _⟩
set_option maxHeartbeats 1000000 in
theorem do_emB (op al ah bl bh : Int) (h1 : al ≤ ah) (h2 : bh < bl) (h3 : op ≠ 10) (w : World) : Calls Try.prog 20 #[.int .i64 op, sv (al, ah), sv (bl, bh)] w fun e w' => e = .returned (.tuple #[sv (0, 0), .bool false]) ∧ Below w.heap.size w w' := by
  have HEa : Hid (∀ w, Calls Try.prog 27 #[.agg #[.int .i64 al, .int .i64 ah]] w fun e w' => e = .returned (.bool false) ∧ Below w.heap.size w w') := emF h1
  have HEb : Hid (∀ w, Calls Try.prog 27 #[.agg #[.int .i64 bl, .int .i64 bh]] w fun e w' => e = .returned (.bool true) ∧ Below w.heap.size w w') := emT h2
  have hb := fun (o1 o2 o3 : Obj) => (Below.one (Below.one (Below.one (Below.refl _ w) o1) o2) o3 : Below w.heap.size w _)
  have h3' := beq_no h3
  clear h1 h2 h3
  go_enter Try.func20, Try.ntmps20
  go_wp2_with (first | (go_at_call_of 27 (Value.agg #[Value.int .i64 al, Value.int .i64 ah]); refine (HEa.out _).mono ?_; rintro e w1 ⟨rfl, hb1⟩; have A0 := At.stay (At.more (At.more (At.new w (al, ah)) _) _) hb1; have A1 := At.stay (At.more (At.new1 w (bl, bh) _) _) hb1; have A2 := At.stay (At.new2 w (0, 0) _ _) hb1; have x0 := A0.c0; have x1 := A0.c1; have y0 := A1.c0; have y1 := A1.c1; have z0 := A2.c0; have z1 := A2.c1; have z2 := A2.f0; have z3 := A2.f1) | (go_at_call_of 27 (Value.agg #[Value.int .i64 bl, Value.int .i64 bh]); refine (HEb.out _).mono ?_; rintro e w2 ⟨rfl, hb2⟩; have D0 := A0.stay hb2; have D1 := A1.stay hb2; have D2 := A2.stay hb2; have u0 := D0.c0; have u1 := D0.c1; have v0 := D1.c0; have v1 := D1.c1; have t0 := D2.c0; have t1 := D2.c1; have t2 := D2.f0; have t3 := D2.f1))
  exact bodyPost_ret (v := .tuple #[sv (0, 0), .bool false]) (by simp [results, Try.results20, go_sem, *]) rfl ⟨rfl, Below.put (Below.on (Below.on (hb _ _ _) hb1) hb2) (by omega) _ _⟩
set_option maxHeartbeats 1000000 in
theorem do_other (op al ah bl bh : Int) (h1 : al ≤ ah) (h2 : bl ≤ bh) (o3 : op ≠ 3) (o4 : op ≠ 4) (o5 : op ≠ 5) (o6 : op ≠ 6) (o7 : op ≠ 7) (o8 : op ≠ 8) (o9 : op ≠ 9) (o10 : op ≠ 10) (w : World) : Calls Try.prog 20 #[.int .i64 op, sv (al, ah), sv (bl, bh)] w fun e w' => e = .returned (.tuple #[sv (0, 0), .bool false]) ∧ Below w.heap.size w w' := by
  have HEa : Hid (∀ w, Calls Try.prog 27 #[.agg #[.int .i64 al, .int .i64 ah]] w fun e w' => e = .returned (.bool false) ∧ Below w.heap.size w w') := emF h1
  have HEb : Hid (∀ w, Calls Try.prog 27 #[.agg #[.int .i64 bl, .int .i64 bh]] w fun e w' => e = .returned (.bool false) ∧ Below w.heap.size w w') := emF h2
  have hb := fun (o1 o2 o3 : Obj) => (Below.one (Below.one (Below.one (Below.refl _ w) o1) o2) o3 : Below w.heap.size w _)
  have p3 := beq_no o3
  have p4 := beq_no o4
  have p5 := beq_no o5
  have p6 := beq_no o6
  have p7 := beq_no o7
  have p8 := beq_no o8
  have p9 := beq_no o9
  have p10 := beq_no o10
  have hu : undef = Value.tuple #[] := rfl
  clear h1 h2 o3 o4 o5 o6 o7 o8 o9 o10
  go_enter Try.func20, Try.ntmps20
  go_wp2_with (first | (go_at_call_of 27 (Value.agg #[Value.int .i64 al, Value.int .i64 ah]); refine (HEa.out _).mono ?_; rintro e w1 ⟨rfl, hb1⟩; have A0 := At.stay (At.more (At.more (At.new w (al, ah)) _) _) hb1; have A1 := At.stay (At.more (At.new1 w (bl, bh) _) _) hb1; have A2 := At.stay (At.new2 w (0, 0) _ _) hb1; have x0 := A0.c0; have x1 := A0.c1; have y0 := A1.c0; have y1 := A1.c1; have z0 := A2.c0; have z1 := A2.c1; have z2 := A2.f0; have z3 := A2.f1) | (go_at_call_of 27 (Value.agg #[Value.int .i64 bl, Value.int .i64 bh]); refine (HEb.out _).mono ?_; rintro e w2 ⟨rfl, hb2⟩; have D0 := A0.stay hb2; have D1 := A1.stay hb2; have D2 := A2.stay hb2; have u0 := D0.c0; have u1 := D0.c1; have v0 := D1.c0; have v1 := D1.c1; have t0 := D2.c0; have t1 := D2.c1; have t2 := D2.f0; have t3 := D2.f1))
  exact bodyPost_ret (v := .tuple #[sv (0, 0), .bool false]) (by simp [results, Try.results20, go_sem, *]) rfl ⟨rfl, Below.put (Below.on (Below.on (hb _ _ _) hb1) hb2) (by omega) _ _⟩
end Go.Proofs.Ytbepapbfohfdkaa

/- Spans: sums, differences. -/
namespace Go.Proofs.Ytbepapbfohfdkaa
open Go.RowKit Go.Lib Go.Sort

set_option maxHeartbeats 1000000 in
theorem sums_any (a b : Sp) (ha : a.Ok) (hb' : b.Ok) (w : World) : Calls Try.prog 32 #[sv a, sv b] w fun e w' => e = .returned (sv (sumS a b)) ∧ Below w.heap.size w w' := by
  obtain ⟨al, ah⟩ := a
  obtain ⟨bl, bh⟩ := b
  have hb := fun (o1 o2 o3 : Obj) => (Below.one (Below.one (Below.one (Below.refl _ w) o1) o2) o3 : Below w.heap.size w _)
  have H1 : Hid (∀ w, Calls Try.prog 49 #[.int .i64 al, .int .i64 bl] w fun e w' => e = .returned (.tuple #[.int .i64 (wrap64 (al + bl)), .bool (fitB (al + bl))]) ∧ w' = w) := fun w => sum_any _ _ ha.1 hb'.1 w
  have H2 : Hid (∀ w, Calls Try.prog 49 #[.int .i64 ah, .int .i64 bh] w fun e w' => e = .returned (.tuple #[.int .i64 (wrap64 (ah + bh)), .bool (fitB (ah + bh))]) ∧ w' = w) := fun w => sum_any _ _ ha.2 hb'.2 w
  have HS : Hid (∀ w, Calls Try.prog 50 #[.agg #[.int .i64 al, .int .i64 ah], .agg #[.int .i64 bl, .int .i64 bh], .agg #[.int .i64 (wrap64 (al + bl)), .int .i64 (wrap64 (ah + bh))], .bool (fitB (al + bl) && fitB (ah + bh))] w fun e w' => e = .returned (sv (sumS (al, ah) (bl, bh))) ∧ Below w.heap.size w w') := fun w => settle_any (al, ah) (bl, bh) (wrap64 (al + bl), wrap64 (ah + bh)) _ w
  clear ha hb'
  generalize sumS (al, ah) (bl, bh) = R at *
  obtain ⟨r1, r2⟩ := R
  generalize fitB (al + bl) = F1 at *
  generalize fitB (ah + bh) = F2 at *
  generalize wrap64 (al + bl) = S1 at *
  generalize wrap64 (ah + bh) = S2 at *
  cases F1 <;> simp only [Bool.false_and, Bool.true_and] at HS
  all_goals
    go_enter Try.func32, Try.ntmps32
    go_wp2_with (first | (go_at_call_of 49 (Value.int .i64 al); refine (H1.out _).mono ?_; rintro e w1 ⟨rfl, hw⟩; rw [hw]; clear hw) | (go_at_call_of 49 (Value.int .i64 ah); refine (H2.out _).mono ?_; rintro e w1 ⟨rfl, hw⟩; rw [hw]; clear hw) | (go_at_call 50; refine (HS.out _).mono ?_; rintro e w3 ⟨rfl, hb3⟩; have A2 := At.stay (At.new2 w (0, 0) _ _) hb3; have z0 := A2.c0; have z1 := A2.c1; have z2 := A2.f0; have z3 := A2.f1))
    exact bodyPost_ret (v := sv (r1, r2)) (by simp [results, Try.results32, go_sem, *]) rfl ⟨rfl, ((Below.on (hb _ _ _) hb3).setCell (by simp; omega) _).setCell (by simp; omega) _⟩
set_option maxHeartbeats 1000000 in
theorem differences_any (a b : Sp) (ha : a.Ok) (hb' : b.Ok) (w : World) : Calls Try.prog 33 #[sv a, sv b] w fun e w' => e = .returned (sv (difS a b)) ∧ Below w.heap.size w w' := by
  obtain ⟨al, ah⟩ := a
  obtain ⟨bl, bh⟩ := b
  have hb := fun (o1 o2 o3 : Obj) => (Below.one (Below.one (Below.one (Below.refl _ w) o1) o2) o3 : Below w.heap.size w _)
  have H1 : Hid (∀ w, Calls Try.prog 51 #[.int .i64 al, .int .i64 bh] w fun e w' => e = .returned (.tuple #[.int .i64 (wrap64 (al - bh)), .bool (fitB (al - bh))]) ∧ w' = w) := fun w => difference_any _ _ ha.1 hb'.2 w
  have H2 : Hid (∀ w, Calls Try.prog 51 #[.int .i64 ah, .int .i64 bl] w fun e w' => e = .returned (.tuple #[.int .i64 (wrap64 (ah - bl)), .bool (fitB (ah - bl))]) ∧ w' = w) := fun w => difference_any _ _ ha.2 hb'.1 w
  have HS : Hid (∀ w, Calls Try.prog 50 #[.agg #[.int .i64 al, .int .i64 ah], .agg #[.int .i64 bl, .int .i64 bh], .agg #[.int .i64 (wrap64 (al - bh)), .int .i64 (wrap64 (ah - bl))], .bool (fitB (al - bh) && fitB (ah - bl))] w fun e w' => e = .returned (sv (difS (al, ah) (bl, bh))) ∧ Below w.heap.size w w') := fun w => settle_any (al, ah) (bl, bh) (wrap64 (al - bh), wrap64 (ah - bl)) _ w
  clear ha hb'
  generalize difS (al, ah) (bl, bh) = R at *
  obtain ⟨r1, r2⟩ := R
  generalize fitB (al - bh) = F1 at *
  generalize fitB (ah - bl) = F2 at *
  generalize wrap64 (al - bh) = S1 at *
  generalize wrap64 (ah - bl) = S2 at *
  cases F1 <;> simp only [Bool.false_and, Bool.true_and] at HS
  all_goals
    go_enter Try.func33, Try.ntmps33
    go_wp2_with (first | (go_at_call_of 51 (Value.int .i64 al); refine (H1.out _).mono ?_; rintro e w1 ⟨rfl, hw⟩; rw [hw]; clear hw) | (go_at_call_of 51 (Value.int .i64 ah); refine (H2.out _).mono ?_; rintro e w1 ⟨rfl, hw⟩; rw [hw]; clear hw) | (go_at_call 50; refine (HS.out _).mono ?_; rintro e w3 ⟨rfl, hb3⟩; have A2 := At.stay (At.new2 w (0, 0) _ _) hb3; have z0 := A2.c0; have z1 := A2.c1; have z2 := A2.f0; have z3 := A2.f1))
    exact bodyPost_ret (v := sv (r1, r2)) (by simp [results, Try.results33, go_sem, *]) rfl ⟨rfl, ((Below.on (hb _ _ _) hb3).setCell (by simp; omega) _).setCell (by simp; omega) _⟩
end Go.Proofs.Ytbepapbfohfdkaa

/- Spans: products of two numbers, where remainders are. -/
namespace Go.Proofs.Ytbepapbfohfdkaa
open Go.RowKit Go.Lib Go.Sort

theorem maskN (a : Nat) (ha : a < 18446744073709551616) : bits .and .u64 (a : Int) 4294967295 = ((a % 4294967296 : Nat) : Int) := by
  have h := bits_and_u64_nat a 4294967295 ha (by omega)
  have e : a &&& 4294967295 = a % 4294967296 := Nat.and_two_pow_sub_one_eq_mod a 32
  rw [e] at h
  exact h
theorem divN (a : Nat) : (a : Int) / 4294967296 = ((a / 4294967296 : Nat) : Int) := by omega
theorem mulN (a b : Nat) : (a : Int) * (b : Int) = ((a * b : Nat) : Int) := (Int.natCast_mul a b).symm
theorem addN (a b : Nat) : (a : Int) + (b : Int) = ((a + b : Nat) : Int) := (Int.natCast_add a b).symm
theorem wrapN (a : Nat) (ha : a < 18446744073709551616) : IntKind.u64.wrap (a : Int) = (a : Int) := by rw [IntKind.wrap_u64]; omega
theorem wrapM (a : Nat) : IntKind.u64.wrap (a : Int) = ((a % 18446744073709551616 : Nat) : Int) := by rw [IntKind.wrap_u64]; omega

set_option maxHeartbeats 1000000 in
theorem mul64_any (x y : Nat) (hx : x < 18446744073709551616) (hy : y < 18446744073709551616) (w : World) :
    Calls Try.prog 55 #[.int .u64 x, .int .u64 y] w fun e w' => e = .returned (.tuple #[.int .u64 ((x * y / 18446744073709551616 : Nat) : Int), .int .u64 ((x * y % 18446744073709551616 : Nat) : Int)]) ∧ w' = w := by
  obtain ⟨bd, bt, bw, hhi⟩ := Lib.mul64_hi x y hx hy
  have ba := Lib.half_mul_le (a := x / 4294967296) (b := y / 4294967296) (by omega) (by omega)
  have bb := Lib.half_mul_le (a := x / 4294967296) (b := y % 4294967296) (by omega) (by omega)
  have bc := Lib.half_mul_le (a := x % 4294967296) (b := y / 4294967296) (by omega) (by omega)
  have ba' : x / 4294967296 * (y / 4294967296) < 18446744073709551616 := by omega
  have bb' : x / 4294967296 * (y % 4294967296) < 18446744073709551616 := by omega
  have bc' : x % 4294967296 * (y / 4294967296) < 18446744073709551616 := by omega
  have bh1 : x / 4294967296 * (y / 4294967296) + (x / 4294967296 * (y % 4294967296) + x % 4294967296 * (y % 4294967296) / 4294967296) / 4294967296 < 18446744073709551616 := by omega
  have bh : x / 4294967296 * (y / 4294967296) + (x / 4294967296 * (y % 4294967296) + x % 4294967296 * (y % 4294967296) / 4294967296) / 4294967296 + ((x / 4294967296 * (y % 4294967296) + x % 4294967296 * (y % 4294967296) / 4294967296) % 4294967296 + x % 4294967296 * (y / 4294967296)) / 4294967296 < 18446744073709551616 := by omega
  go_enter Try.func55, Try.ntmps55
  go_wp2
  simp only [maskN x hx, maskN y hy, divN, mulN, addN, wrapN _ bd, wrapN _ bb', wrapN _ bt, maskN _ bt, wrapN _ bc', wrapN _ bw, wrapN _ ba', wrapN _ bh1, wrapN _ bh, wrapM (x * y)]
  rw [hhi]
  go_ret2
  exact ⟨rfl, rfl⟩

theorem dis_nm {n : Int} (h : Nm n) : 0 ≤ dis n ∧ dis n ≤ 9223372036854775808 := by unfold dis Nm at *; split <;> omega
theorem dis_mul (x y : Int) : dis x * dis y = dis (x * y) := by
  unfold dis
  rcases Int.le_total 0 x with hx | hx <;> rcases Int.le_total 0 y with hy | hy
  · have := Int.mul_nonneg hx hy
    rw [if_neg (by omega), if_neg (by omega), if_neg (by omega)]
  · have := Int.mul_nonpos_of_nonneg_of_nonpos hx hy
    rw [if_neg (by omega)]
    by_cases h : x * y < 0
    · rw [if_pos h]
      by_cases hy0 : y < 0
      · rw [if_pos hy0, Int.mul_neg]
      · have : y = 0 := by omega
        subst this; simp
    · rw [if_neg h]
      have h0 : x * y = 0 := by omega
      by_cases hy0 : y < 0
      · rw [if_pos hy0, Int.mul_neg, h0]; rfl
      · rw [if_neg hy0]
  · have := Int.mul_nonpos_of_nonpos_of_nonneg hx hy
    rw [if_neg (show ¬ y < 0 by omega)]
    by_cases h : x * y < 0
    · rw [if_pos h]
      by_cases hy0 : x < 0
      · rw [if_pos hy0, Int.neg_mul]
      · have : x = 0 := by omega
        subst this; simp
    · rw [if_neg h]
      have h0 : x * y = 0 := by omega
      by_cases hy0 : x < 0
      · rw [if_pos hy0, Int.neg_mul, h0]; rfl
      · rw [if_neg hy0]
  · have h1 := Int.mul_nonneg (show 0 ≤ -x by omega) (show 0 ≤ -y by omega)
    rw [Int.neg_mul_neg] at h1
    rw [if_neg (show ¬ x * y < 0 by omega)]
    by_cases hx0 : x < 0 <;> by_cases hy0 : y < 0
    · rw [if_pos hx0, if_pos hy0, Int.neg_mul_neg]
    · have : y = 0 := by omega
      subst this; simp
    · have : x = 0 := by omega
      subst this; simp
    · have : x = 0 := by omega
      subst this; simp
theorem mul_sign {x y : Int} : (¬ (x < 0 ↔ y < 0) → x * y ≤ 0) ∧ ((x < 0 ↔ y < 0) → 0 ≤ x * y) := by
  refine ⟨fun h => ?_, fun h => ?_⟩
  · by_cases hx : x < 0
    · exact Int.mul_nonpos_of_nonpos_of_nonneg (by omega) (by omega)
    · exact Int.mul_nonpos_of_nonneg_of_nonpos (by omega) (by omega)
  · by_cases hx : x < 0
    · have := Int.mul_nonneg (show 0 ≤ -x by omega) (show 0 ≤ -y by omega)
      rwa [Int.neg_mul_neg] at this
    · exact Int.mul_nonneg (by omega) (by omega)
/-- Is a product a number? Asked of its words. -/
theorem fit_words (x y : Int) (p q : Nat) (hp : dis x = p) (hq : dis y = q) (room : Int) (hr : room = if (decide (x < 0) != decide (y < 0)) = true then 9223372036854775808 else 9223372036854775807) :
    fitB (x * y) = if p * q / 18446744073709551616 = 0 then decide (((p * q % 18446744073709551616 : Nat) : Int) ≤ room) else false := by
  have hm := dis_mul x y
  rw [hp, hq] at hm
  have hs := mul_sign (x := x) (y := y)
  have e : ((p * q : Nat) : Int) = dis (x * y) := by rw [← hm]; simp
  generalize p * q = n at *
  generalize x * y = m at *
  unfold fitB
  apply Bool.eq_iff_iff.2
  rw [decide_eq_true_iff]
  unfold Nm dis at *
  by_cases hxy : x < 0 ↔ y < 0
  · have hs2 := hs.2 hxy
    rw [if_neg (by omega)] at e
    have : (decide (x < 0) != decide (y < 0)) = false := by simp [hxy]
    rw [this] at hr
    simp at hr
    split
    · rw [decide_eq_true_iff]; omega
    · simp; omega
  · have hs1 := hs.1 hxy
    have : (decide (x < 0) != decide (y < 0)) = true := by
      rw [bne_iff_ne]
      intro h
      exact hxy (decide_eq_decide.1 h)
    rw [this] at hr
    simp at hr
    split
    · rw [decide_eq_true_iff]; split at e <;> omega
    · split at e <;> simp <;> omega
set_option maxHeartbeats 1000000 in
theorem product_any (x y : Int) (hx : Nm x) (hy : Nm y) (w : World) : Calls Try.prog 52 #[.int .i64 x, .int .i64 y] w fun e w' => e = .returned (.tuple #[.int .i64 (wrap64 (x * y)), .bool (fitB (x * y))]) ∧ w' = w := by
  obtain ⟨d1, d2⟩ := dis_nm hx
  obtain ⟨d3, d4⟩ := dis_nm hy
  obtain ⟨p, hp⟩ := Int.eq_ofNat_of_zero_le d1
  obtain ⟨q, hq⟩ := Int.eq_ofNat_of_zero_le d3
  have HD1 : Hid (∀ w, Calls Try.prog 53 #[.int .i64 x] w fun e w' => e = .returned (.int .u64 p) ∧ w' = w) := fun w => by have := distance_any x hx w; rwa [hp] at this
  have HD2 : Hid (∀ w, Calls Try.prog 53 #[.int .i64 y] w fun e w' => e = .returned (.int .u64 q) ∧ w' = w) := fun w => by have := distance_any y hy w; rwa [hq] at this
  have HM : Hid (∀ w, Calls Try.prog 55 #[.int .u64 p, .int .u64 q] w fun e w' => e = .returned (.tuple #[.int .u64 ((p * q / 18446744073709551616 : Nat) : Int), .int .u64 ((p * q % 18446744073709551616 : Nat) : Int)]) ∧ w' = w) := mul64_any p q (by omega) (by omega)
  have HF := fun room hr => fit_words x y p q hp hq room hr
  by_cases cx : x < 0 <;> by_cases cy : y < 0
  · have HF' := HF 9223372036854775807 (by simp [cx, cy])
    by_cases hz : p * q / 18446744073709551616 = 0
    · rw [if_pos hz] at HF'
      rw [HF']
      rw [hz] at HM
      clear HF HF' hz hp hq d1 d2 d3 d4 hx hy
      generalize p * q % 18446744073709551616 = lo at *
      go_enter Try.func52, Try.ntmps52
      go_wp2_with (first | (go_at_call_of 53 (Value.int .i64 x); refine (HD1.out _).mono ?_; rintro e w1 ⟨rfl, hw⟩; rw [hw]; clear hw) | (go_at_call_of 53 (Value.int .i64 y); refine (HD2.out _).mono ?_; rintro e w1 ⟨rfl, hw⟩; rw [hw]; clear hw) | (go_at_call 55; refine (HM.out _).mono ?_; rintro e w1 ⟨rfl, hw⟩; rw [hw]; clear hw))
      go_ret2
      exact ⟨rfl, rfl⟩
    · rw [if_neg hz] at HF'
      rw [HF']
      have hz' := beq_no (show ((p * q / 18446744073709551616 : Nat) : Int) ≠ 0 by omega)
      clear HF HF' hz hp hq d1 d2 d3 d4 hx hy
      generalize p * q / 18446744073709551616 = hi at *
      generalize p * q % 18446744073709551616 = lo at *
      go_enter Try.func52, Try.ntmps52
      go_wp2_with (first | (go_at_call_of 53 (Value.int .i64 x); refine (HD1.out _).mono ?_; rintro e w1 ⟨rfl, hw⟩; rw [hw]; clear hw) | (go_at_call_of 53 (Value.int .i64 y); refine (HD2.out _).mono ?_; rintro e w1 ⟨rfl, hw⟩; rw [hw]; clear hw) | (go_at_call 55; refine (HM.out _).mono ?_; rintro e w1 ⟨rfl, hw⟩; rw [hw]; clear hw))
      go_ret2
      exact ⟨rfl, rfl⟩
  · have HF' := HF 9223372036854775808 (by simp [cx, cy])
    by_cases hz : p * q / 18446744073709551616 = 0
    · rw [if_pos hz] at HF'
      rw [HF']
      rw [hz] at HM
      clear HF HF' hz hp hq d1 d2 d3 d4 hx hy
      generalize p * q % 18446744073709551616 = lo at *
      go_enter Try.func52, Try.ntmps52
      go_wp2_with (first | (go_at_call_of 53 (Value.int .i64 x); refine (HD1.out _).mono ?_; rintro e w1 ⟨rfl, hw⟩; rw [hw]; clear hw) | (go_at_call_of 53 (Value.int .i64 y); refine (HD2.out _).mono ?_; rintro e w1 ⟨rfl, hw⟩; rw [hw]; clear hw) | (go_at_call 55; refine (HM.out _).mono ?_; rintro e w1 ⟨rfl, hw⟩; rw [hw]; clear hw))
      go_ret2
      exact ⟨rfl, rfl⟩
    · rw [if_neg hz] at HF'
      rw [HF']
      have hz' := beq_no (show ((p * q / 18446744073709551616 : Nat) : Int) ≠ 0 by omega)
      clear HF HF' hz hp hq d1 d2 d3 d4 hx hy
      generalize p * q / 18446744073709551616 = hi at *
      generalize p * q % 18446744073709551616 = lo at *
      go_enter Try.func52, Try.ntmps52
      go_wp2_with (first | (go_at_call_of 53 (Value.int .i64 x); refine (HD1.out _).mono ?_; rintro e w1 ⟨rfl, hw⟩; rw [hw]; clear hw) | (go_at_call_of 53 (Value.int .i64 y); refine (HD2.out _).mono ?_; rintro e w1 ⟨rfl, hw⟩; rw [hw]; clear hw) | (go_at_call 55; refine (HM.out _).mono ?_; rintro e w1 ⟨rfl, hw⟩; rw [hw]; clear hw))
      go_ret2
      exact ⟨rfl, rfl⟩
  · have HF' := HF 9223372036854775808 (by simp [cx, cy])
    by_cases hz : p * q / 18446744073709551616 = 0
    · rw [if_pos hz] at HF'
      rw [HF']
      rw [hz] at HM
      clear HF HF' hz hp hq d1 d2 d3 d4 hx hy
      generalize p * q % 18446744073709551616 = lo at *
      go_enter Try.func52, Try.ntmps52
      go_wp2_with (first | (go_at_call_of 53 (Value.int .i64 x); refine (HD1.out _).mono ?_; rintro e w1 ⟨rfl, hw⟩; rw [hw]; clear hw) | (go_at_call_of 53 (Value.int .i64 y); refine (HD2.out _).mono ?_; rintro e w1 ⟨rfl, hw⟩; rw [hw]; clear hw) | (go_at_call 55; refine (HM.out _).mono ?_; rintro e w1 ⟨rfl, hw⟩; rw [hw]; clear hw))
      go_ret2
      exact ⟨rfl, rfl⟩
    · rw [if_neg hz] at HF'
      rw [HF']
      have hz' := beq_no (show ((p * q / 18446744073709551616 : Nat) : Int) ≠ 0 by omega)
      clear HF HF' hz hp hq d1 d2 d3 d4 hx hy
      generalize p * q / 18446744073709551616 = hi at *
      generalize p * q % 18446744073709551616 = lo at *
      go_enter Try.func52, Try.ntmps52
      go_wp2_with (first | (go_at_call_of 53 (Value.int .i64 x); refine (HD1.out _).mono ?_; rintro e w1 ⟨rfl, hw⟩; rw [hw]; clear hw) | (go_at_call_of 53 (Value.int .i64 y); refine (HD2.out _).mono ?_; rintro e w1 ⟨rfl, hw⟩; rw [hw]; clear hw) | (go_at_call 55; refine (HM.out _).mono ?_; rintro e w1 ⟨rfl, hw⟩; rw [hw]; clear hw))
      go_ret2
      exact ⟨rfl, rfl⟩
  · have HF' := HF 9223372036854775807 (by simp [cx, cy])
    by_cases hz : p * q / 18446744073709551616 = 0
    · rw [if_pos hz] at HF'
      rw [HF']
      rw [hz] at HM
      clear HF HF' hz hp hq d1 d2 d3 d4 hx hy
      generalize p * q % 18446744073709551616 = lo at *
      go_enter Try.func52, Try.ntmps52
      go_wp2_with (first | (go_at_call_of 53 (Value.int .i64 x); refine (HD1.out _).mono ?_; rintro e w1 ⟨rfl, hw⟩; rw [hw]; clear hw) | (go_at_call_of 53 (Value.int .i64 y); refine (HD2.out _).mono ?_; rintro e w1 ⟨rfl, hw⟩; rw [hw]; clear hw) | (go_at_call 55; refine (HM.out _).mono ?_; rintro e w1 ⟨rfl, hw⟩; rw [hw]; clear hw))
      go_ret2
      exact ⟨rfl, rfl⟩
    · rw [if_neg hz] at HF'
      rw [HF']
      have hz' := beq_no (show ((p * q / 18446744073709551616 : Nat) : Int) ≠ 0 by omega)
      clear HF HF' hz hp hq d1 d2 d3 d4 hx hy
      generalize p * q / 18446744073709551616 = hi at *
      generalize p * q % 18446744073709551616 = lo at *
      go_enter Try.func52, Try.ntmps52
      go_wp2_with (first | (go_at_call_of 53 (Value.int .i64 x); refine (HD1.out _).mono ?_; rintro e w1 ⟨rfl, hw⟩; rw [hw]; clear hw) | (go_at_call_of 53 (Value.int .i64 y); refine (HD2.out _).mono ?_; rintro e w1 ⟨rfl, hw⟩; rw [hw]; clear hw) | (go_at_call 55; refine (HM.out _).mono ?_; rintro e w1 ⟨rfl, hw⟩; rw [hw]; clear hw))
      go_ret2
      exact ⟨rfl, rfl⟩
end Go.Proofs.Ytbepapbfohfdkaa

/- Spans: where quotients are. -/
namespace Go.Proofs.Ytbepapbfohfdkaa
open Go.RowKit Go.Lib Go.Sort

/-- The divisors that are looked at, in their order; the quotients by the first ones of them. -/
def dvs (b : Sp) : List Int := [b.1, -1, 1, b.2]
def quoK (a b : Sp) (k : Nat) : List Int := quoL a (((dvs b).take k).filter fun d => d ≠ 0 ∧ b.1 ≤ d ∧ d ≤ b.2)
theorem quoK_all (a b : Sp) : quoK a b 4 = quoL a (cand b) := rfl
theorem quoK_succ {a b : Sp} {k : Nat} {d : Int} (h : (dvs b)[k]? = some d) : quoK a b (k + 1) = if d ≠ 0 ∧ b.1 ≤ d ∧ d ≤ b.2 then quoK a b k ++ [a.1.tdiv d, a.2.tdiv d] else quoK a b k := by
  unfold quoK
  rw [List.take_add_one, h]
  simp only [Option.toList_some, List.filter_append]
  by_cases hd : d ≠ 0 ∧ b.1 ≤ d ∧ d ≤ b.2
  · rw [if_pos hd, List.filter_cons, if_pos (by simpa using hd)]
    simp [quoL]
  · rw [if_neg hd, List.filter_cons, if_neg (by simpa using hd)]
    simp
theorem ix4 {bl bh d : Int} {k : Nat} (hlt : k < 4) (hd : (dvs (bl, bh))[k]? = some d) (w : World) : (Instr.index 52 (.agg #[.int .i64 bl, .int .i64 (-1), .int .i64 1, .int .i64 bh]) (.int .i64 k)).run Try.prog w = .ok (.int .i64 d) w := by
  have hz := Try.sizeOf2
  have ha := Try.isAgg2
  match k, hlt, hd with
  | 0, _, hd => simp [dvs] at hd; simp [Instr.index, asIntOf, run_underlying Try.underlying52, go_sem, *]
  | 1, _, hd => simp [dvs] at hd; simp [Instr.index, asIntOf, run_underlying Try.underlying52, go_sem, *]
  | 2, _, hd => simp [dvs] at hd; simp [Instr.index, asIntOf, run_underlying Try.underlying52, go_sem, *]
  | 3, _, hd => simp [dvs] at hd; simp [Instr.index, asIntOf, run_underlying Try.underlying52, go_sem, *]
theorem hasV (l h n : Int) (w : World) : Calls Try.prog 14 #[.agg #[.int .i64 l, .int .i64 h], .int .i64 n] w fun e w' => e = .returned (.bool (decide (l ≤ n ∧ n ≤ h))) ∧ Below w.heap.size w w' := has_any (l, h) n w
theorem nthV (w : World) : Calls Try.prog 48 #[] w fun e w' => e = .returned (.agg #[.int .i64 1, .int .i64 0]) ∧ Below w.heap.size w w' := nothing_any w
theorem hasT {l h n : Int} (H : l ≤ n ∧ n ≤ h) (w : World) : Calls Try.prog 14 #[.agg #[.int .i64 l, .int .i64 h], .int .i64 n] w fun e w' => e = .returned (.bool true) ∧ Below w.heap.size w w' := by
  have := hasV l h n w
  rwa [decide_eq_true H] at this
theorem hasF {l h n : Int} (H : ¬ (l ≤ n ∧ n ≤ h)) (w : World) : Calls Try.prog 14 #[.agg #[.int .i64 l, .int .i64 h], .int .i64 n] w fun e w' => e = .returned (.bool false) ∧ Below w.heap.size w w' := by
  have := hasV l h n w
  rwa [decide_eq_false H] at this
set_option maxHeartbeats 2000000 in
theorem quotients_all (al ah bl bh : Int) (h1 : al ≤ -9223372036854775808 ∧ -9223372036854775808 ≤ ah) (h2 : bl ≤ -1 ∧ -1 ≤ bh) (w : World) : Calls Try.prog 31 #[sv (al, ah), sv (bl, bh)] w fun e w' => e = .returned (sv allS) ∧ Below w.heap.size w w' := by
  have H1 : Hid (∀ w, Calls Try.prog 14 #[.agg #[.int .i64 al, .int .i64 ah], .int .i64 (-9223372036854775808)] w fun e w' => e = .returned (.bool true) ∧ Below w.heap.size w w') := hasT h1
  have H2 : Hid (∀ w, Calls Try.prog 14 #[.agg #[.int .i64 bl, .int .i64 bh], .int .i64 (-1)] w fun e w' => e = .returned (.bool true) ∧ Below w.heap.size w w') := hasT h2
  have HA := Hid.mk' allV
  have hb := fun (o1 o2 o3 : Obj) => (Below.one (Below.one (Below.one (Below.refl _ w) o1) o2) o3 : Below w.heap.size w _)
  clear h1 h2
  go_enter Try.func31, Try.ntmps31
  go_wp2_with (first | (go_at_call_of 14 (Value.agg #[Value.int .i64 al, Value.int .i64 ah]); refine (H1.out _).mono ?_; rintro e w1 ⟨rfl, hb1⟩; have A0 := At.stay (At.more (At.more (At.new w (al, ah)) _) _) hb1; have A1 := At.stay (At.more (At.new1 w (bl, bh) _) _) hb1; have A2 := At.stay (At.new2 w (0, 0) _ _) hb1; have y0 := A1.c0; have y1 := A1.c1) | (go_at_call_of 14 (Value.agg #[Value.int .i64 bl, Value.int .i64 bh]); refine (H2.out _).mono ?_; rintro e w2 ⟨rfl, hb2⟩) | (go_at_call 12; refine (HA.out _).mono ?_; rintro e w3 ⟨rfl, hb3⟩; have D2 := (A2.stay hb2).stay hb3; have z0 := D2.c0; have z1 := D2.c1; have z2 := D2.f0; have z3 := D2.f1))
  exact bodyPost_ret (v := sv allS) (by simp [results, Try.results31, go_sem, allS, *]) rfl ⟨rfl, ((Below.on (Below.on (Below.on (hb _ _ _) hb1) hb2) hb3).setCell (by simp; omega) _).setCell (by simp; omega) _⟩
end Go.Proofs.Ytbepapbfohfdkaa
