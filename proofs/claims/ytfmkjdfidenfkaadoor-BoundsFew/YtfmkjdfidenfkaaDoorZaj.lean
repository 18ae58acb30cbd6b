/- Spans: sums, differences. Spans: products of two numbers, where remainders are. Spans: where quotients are. Spans: where quotients are, the walk of all divisors. Spans: where products are. -/
import Derived.Test.YtfmkjdfidenfkaaDoorZai
import Derived.Lib.Mul64
import Derived.Laws.Bits64b
namespace Go.Proofs.YtfmkjdfidenfkaaDoor.S8
open Go.RowKit Go.Lib Go.Sort

set_option maxHeartbeats 1000000 in
theorem sums_any (a b : Sp) (ha : a.Ok) (hb' : b.Ok) (w : World) : Calls Tryd.prog 96 #[sv a, sv b] w fun e w' => e = .returned (sv (sumS a b)) ∧ Below w.heap.size w w' := by
  obtain ⟨al, ah⟩ := a
  obtain ⟨bl, bh⟩ := b
  have hb := fun (o1 o2 o3 : Obj) => (Below.one (Below.one (Below.one (Below.refl _ w) o1) o2) o3 : Below w.heap.size w _)
  have H1 : Hid (∀ w, Calls Tryd.prog 108 #[.int .i64 al, .int .i64 bl] w fun e w' => e = .returned (.tuple #[.int .i64 (wrap64 (al + bl)), .bool (fitB (al + bl))]) ∧ w' = w) := fun w => sum_any _ _ ha.1 hb'.1 w
  have H2 : Hid (∀ w, Calls Tryd.prog 108 #[.int .i64 ah, .int .i64 bh] w fun e w' => e = .returned (.tuple #[.int .i64 (wrap64 (ah + bh)), .bool (fitB (ah + bh))]) ∧ w' = w) := fun w => sum_any _ _ ha.2 hb'.2 w
  have HS : Hid (∀ w, Calls Tryd.prog 109 #[.agg #[.int .i64 al, .int .i64 ah], .agg #[.int .i64 bl, .int .i64 bh], .agg #[.int .i64 (wrap64 (al + bl)), .int .i64 (wrap64 (ah + bh))], .bool (fitB (al + bl) && fitB (ah + bh))] w fun e w' => e = .returned (sv (sumS (al, ah) (bl, bh))) ∧ Below w.heap.size w w') := fun w => settle_any (al, ah) (bl, bh) (wrap64 (al + bl), wrap64 (ah + bh)) _ w
  clear ha hb'
  generalize sumS (al, ah) (bl, bh) = R at *
  obtain ⟨r1, r2⟩ := R
  generalize fitB (al + bl) = F1 at *
  generalize fitB (ah + bh) = F2 at *
  generalize wrap64 (al + bl) = S1 at *
  generalize wrap64 (ah + bh) = S2 at *
  cases F1 <;> simp only [Bool.false_and, Bool.true_and] at HS
  all_goals
    go_enter Tryd.func96, Tryd.ntmps96
    go_wp2_with (first | (go_at_call_of 108 (Value.int .i64 al); refine (H1.out _).mono ?_; rintro e w1 ⟨rfl, hw⟩; rw [hw]; clear hw) | (go_at_call_of 108 (Value.int .i64 ah); refine (H2.out _).mono ?_; rintro e w1 ⟨rfl, hw⟩; rw [hw]; clear hw) | (go_at_call 109; refine (HS.out _).mono ?_; rintro e w3 ⟨rfl, hb3⟩; have A2 := At.stay (At.new2 w (0, 0) _ _) hb3; have z0 := A2.c0; have z1 := A2.c1; have z2 := A2.f0; have z3 := A2.f1))
    exact bodyPost_ret (v := sv (r1, r2)) (by simp [results, Tryd.results96, go_sem, *]) rfl ⟨rfl, ((Below.on (hb _ _ _) hb3).setCell (by simp; omega) _).setCell (by simp; omega) _⟩
set_option maxHeartbeats 1000000 in
theorem differences_any (a b : Sp) (ha : a.Ok) (hb' : b.Ok) (w : World) : Calls Tryd.prog 97 #[sv a, sv b] w fun e w' => e = .returned (sv (difS a b)) ∧ Below w.heap.size w w' := by
  obtain ⟨al, ah⟩ := a
  obtain ⟨bl, bh⟩ := b
  have hb := fun (o1 o2 o3 : Obj) => (Below.one (Below.one (Below.one (Below.refl _ w) o1) o2) o3 : Below w.heap.size w _)
  have H1 : Hid (∀ w, Calls Tryd.prog 110 #[.int .i64 al, .int .i64 bh] w fun e w' => e = .returned (.tuple #[.int .i64 (wrap64 (al - bh)), .bool (fitB (al - bh))]) ∧ w' = w) := fun w => difference_any _ _ ha.1 hb'.2 w
  have H2 : Hid (∀ w, Calls Tryd.prog 110 #[.int .i64 ah, .int .i64 bl] w fun e w' => e = .returned (.tuple #[.int .i64 (wrap64 (ah - bl)), .bool (fitB (ah - bl))]) ∧ w' = w) := fun w => difference_any _ _ ha.2 hb'.1 w
  have HS : Hid (∀ w, Calls Tryd.prog 109 #[.agg #[.int .i64 al, .int .i64 ah], .agg #[.int .i64 bl, .int .i64 bh], .agg #[.int .i64 (wrap64 (al - bh)), .int .i64 (wrap64 (ah - bl))], .bool (fitB (al - bh) && fitB (ah - bl))] w fun e w' => e = .returned (sv (difS (al, ah) (bl, bh))) ∧ Below w.heap.size w w') := fun w => settle_any (al, ah) (bl, bh) (wrap64 (al - bh), wrap64 (ah - bl)) _ w
  clear ha hb'
  generalize difS (al, ah) (bl, bh) = R at *
  obtain ⟨r1, r2⟩ := R
  generalize fitB (al - bh) = F1 at *
  generalize fitB (ah - bl) = F2 at *
  generalize wrap64 (al - bh) = S1 at *
  generalize wrap64 (ah - bl) = S2 at *
  cases F1 <;> simp only [Bool.false_and, Bool.true_and] at HS
  all_goals
    go_enter Tryd.func97, Tryd.ntmps97
    go_wp2_with (first | (go_at_call_of 110 (Value.int .i64 al); refine (H1.out _).mono ?_; rintro e w1 ⟨rfl, hw⟩; rw [hw]; clear hw) | (go_at_call_of 110 (Value.int .i64 ah); refine (H2.out _).mono ?_; rintro e w1 ⟨rfl, hw⟩; rw [hw]; clear hw) | (go_at_call 109; refine (HS.out _).mono ?_; rintro e w3 ⟨rfl, hb3⟩; have A2 := At.stay (At.new2 w (0, 0) _ _) hb3; have z0 := A2.c0; have z1 := A2.c1; have z2 := A2.f0; have z3 := A2.f1))
    exact bodyPost_ret (v := sv (r1, r2)) (by simp [results, Tryd.results97, go_sem, *]) rfl ⟨rfl, ((Below.on (hb _ _ _) hb3).setCell (by simp; omega) _).setCell (by simp; omega) _⟩
end Go.Proofs.YtfmkjdfidenfkaaDoor.S8
namespace Go.Proofs.YtfmkjdfidenfkaaDoor.S8
open Go.RowKit Go.Lib Go.Sort

theorem maskN (a : Nat) (ha : a < 18446744073709551616) : bits .and .u64 (a : Int) 4294967295 = ((a % 4294967296 : Nat) : Int) := by
  have h := bits_and_u64_nat a 4294967295 ha (by omega)
  have e : a &&& 4294967295 = a % 4294967296 := Nat.and_two_pow_sub_one_eq_mod a 32
  rw [e] at h
  exact h
theorem divN (a : Nat) : (a : Int) / 4294967296 = ((a / 4294967296 : Nat) : Int) := by omega
theorem mulN (a b : Nat) : (a : Int) * (b : Int) = ((a * b : Nat) : Int) := (Int.natCast_mul a b).symm
theorem addN (a b : Nat) : (a : Int) + (b : Int) = ((a + b : Nat) : Int) := (Int.natCast_add a b).symm
theorem wrapN (a : Nat) (ha : a < 18446744073709551616) : IntKind.u64.wrap (a : Int) = (a : Int) := by rw [IntKind.wrap_u64]; omega
theorem wrapM (a : Nat) : IntKind.u64.wrap (a : Int) = ((a % 18446744073709551616 : Nat) : Int) := by rw [IntKind.wrap_u64]; omega

set_option maxHeartbeats 1000000 in
theorem mul64_any (x y : Nat) (hx : x < 18446744073709551616) (hy : y < 18446744073709551616) (w : World) :
    Calls Tryd.prog 114 #[.int .u64 x, .int .u64 y] w fun e w' => e = .returned (.tuple #[.int .u64 ((x * y / 18446744073709551616 : Nat) : Int), .int .u64 ((x * y % 18446744073709551616 : Nat) : Int)]) ∧ w' = w := by
  obtain ⟨bd, bt, bw, hhi⟩ := Lib.mul64_hi x y hx hy
  have ba := Lib.half_mul_le (a := x / 4294967296) (b := y / 4294967296) (by omega) (by omega)
  have bb := Lib.half_mul_le (a := x / 4294967296) (b := y % 4294967296) (by omega) (by omega)
  have bc := Lib.half_mul_le (a := x % 4294967296) (b := y / 4294967296) (by omega) (by omega)
  have ba' : x / 4294967296 * (y / 4294967296) < 18446744073709551616 := by omega
  have bb' : x / 4294967296 * (y % 4294967296) < 18446744073709551616 := by omega
  have bc' : x % 4294967296 * (y / 4294967296) < 18446744073709551616 := by omega
  have bh1 : x / 4294967296 * (y / 4294967296) + (x / 4294967296 * (y % 4294967296) + x % 4294967296 * (y % 4294967296) / 4294967296) / 4294967296 < 18446744073709551616 := by omega
  have bh : x / 4294967296 * (y / 4294967296) + (x / 4294967296 * (y % 4294967296) + x % 4294967296 * (y % 4294967296) / 4294967296) / 4294967296 + ((x / 4294967296 * (y % 4294967296) + x % 4294967296 * (y % 4294967296) / 4294967296) % 4294967296 + x % 4294967296 * (y / 4294967296)) / 4294967296 < 18446744073709551616 := by omega
  go_enter Tryd.func114, Tryd.ntmps114
  go_wp2
  simp only [maskN x hx, maskN y hy, divN, mulN, addN, wrapN _ bd, wrapN _ bb', wrapN _ bt, maskN _ bt, wrapN _ bc', wrapN _ bw, wrapN _ ba', wrapN _ bh1, wrapN _ bh, wrapM (x * y)]
  rw [hhi]
  go_ret2
  exact ⟨rfl, rfl⟩

theorem dis_nm {n : Int} (h : Nm n) : 0 ≤ dis n ∧ dis n ≤ 9223372036854775808 := by unfold dis Nm at *; split <;> omega
theorem dis_mul (x y : Int) : dis x * dis y = dis (x * y) := by
  unfold dis
  rcases Int.le_total 0 x with hx | hx <;> rcases Int.le_total 0 y with hy | hy
  · have := Int.mul_nonneg hx hy
    rw [if_neg (by omega), if_neg (by omega), if_neg (by omega)]
  · have := Int.mul_nonpos_of_nonneg_of_nonpos hx hy
    rw [if_neg (by omega)]
    by_cases h : x * y < 0
    · rw [if_pos h]
      by_cases hy0 : y < 0
      · rw [if_pos hy0, Int.mul_neg]
      · have : y = 0 := by omega
        subst this; simp
    · rw [if_neg h]
      have h0 : x * y = 0 := by omega
      by_cases hy0 : y < 0
      · rw [if_pos hy0, Int.mul_neg, h0]; rfl
      · rw [if_neg hy0]
  · have := Int.mul_nonpos_of_nonpos_of_nonneg hx hy
    rw [if_neg (show ¬ y < 0 by omega)]
    by_cases h : x * y < 0
    · rw [if_pos h]
      by_cases hy0 : x < 0
      · rw [if_pos hy0, Int.neg_mul]
      · have : x = 0 := by omega
        subst this; simp
    · rw [if_neg h]
      have h0 : x * y = 0 := by omega
      by_cases hy0 : x < 0
      · rw [if_pos hy0, Int.neg_mul, h0]; rfl
      · rw [if_neg hy0]
  · have h1 := Int.mul_nonneg (show 0 ≤ -x by omega) (show 0 ≤ -y by omega)
    rw [Int.neg_mul_neg] at h1
    rw [if_neg (show ¬ x * y < 0 by omega)]
    by_cases hx0 : x < 0 <;> by_cases hy0 : y < 0
    · rw [if_pos hx0, if_pos hy0, Int.neg_mul_neg]
    · have : y = 0 := by omega
      subst this; simp
    · have : x = 0 := by omega
      subst this; simp
    · have : x = 0 := by omega
      subst this; simp
theorem mul_sign {x y : Int} : (¬ (x < 0 ↔ y < 0) → x * y ≤ 0) ∧ ((x < 0 ↔ y < 0) → 0 ≤ x * y) := by
  refine ⟨fun h => ?_, fun h => ?_⟩
  · by_cases hx : x < 0
    · exact Int.mul_nonpos_of_nonpos_of_nonneg (by omega) (by omega)
    · exact Int.mul_nonpos_of_nonneg_of_nonpos (by omega) (by omega)
  · by_cases hx : x < 0
    · have := Int.mul_nonneg (show 0 ≤ -x by omega) (show 0 ≤ -y by omega)
      rwa [Int.neg_mul_neg] at this
    · exact Int.mul_nonneg (by omega) (by omega)
/-- Is a product a number? Asked of its words. -/
theorem fit_words (x y : Int) (p q : Nat) (hp : dis x = p) (hq : dis y = q) (room : Int) (hr : room = if (decide (x < 0) != decide (y < 0)) = true then 9223372036854775808 else 9223372036854775807) :
    fitB (x * y) = if p * q / 18446744073709551616 = 0 then decide (((p * q % 18446744073709551616 : Nat) : Int) ≤ room) else false := by
  have hm := dis_mul x y
  rw [hp, hq] at hm
  have hs := mul_sign (x := x) (y := y)
  have e : ((p * q : Nat) : Int) = dis (x * y) := by rw [← hm]; simp
  generalize p * q = n at *
  generalize x * y = m at *
  unfold fitB
  apply Bool.eq_iff_iff.2
  rw [decide_eq_true_iff]
  unfold Nm dis at *
  by_cases hxy : x < 0 ↔ y < 0
  · have hs2 := hs.2 hxy
    rw [if_neg (by omega)] at e
    have : (decide (x < 0) != decide (y < 0)) = false := by simp [hxy]
    rw [this] at hr
    simp at hr
    split
    · rw [decide_eq_true_iff]; omega
    · simp; omega
  · have hs1 := hs.1 hxy
    have : (decide (x < 0) != decide (y < 0)) = true := by
      rw [bne_iff_ne]
      intro h
      exact hxy (decide_eq_decide.1 h)
    rw [this] at hr
    simp at hr
    split
    · rw [decide_eq_true_iff]; split at e <;> omega
    · split at e <;> simp <;> omega
set_option maxHeartbeats 1000000 in
theorem product_any (x y : Int) (hx : Nm x) (hy : Nm y) (w : World) : Calls Tryd.prog 111 #[.int .i64 x, .int .i64 y] w fun e w' => e = .returned (.tuple #[.int .i64 (wrap64 (x * y)), .bool (fitB (x * y))]) ∧ w' = w := by
  obtain ⟨d1, d2⟩ := dis_nm hx
  obtain ⟨d3, d4⟩ := dis_nm hy
  obtain ⟨p, hp⟩ := Int.eq_ofNat_of_zero_le d1
  obtain ⟨q, hq⟩ := Int.eq_ofNat_of_zero_le d3
  have HD1 : Hid (∀ w, Calls Tryd.prog 112 #[.int .i64 x] w fun e w' => e = .returned (.int .u64 p) ∧ w' = w) := fun w => by have := distance_any x hx w; rwa [hp] at this
  have HD2 : Hid (∀ w, Calls Tryd.prog 112 #[.int .i64 y] w fun e w' => e = .returned (.int .u64 q) ∧ w' = w) := fun w => by have := distance_any y hy w; rwa [hq] at this
  have HM : Hid (∀ w, Calls Tryd.prog 114 #[.int .u64 p, .int .u64 q] w fun e w' => e = .returned (.tuple #[.int .u64 ((p * q / 18446744073709551616 : Nat) : Int), .int .u64 ((p * q % 18446744073709551616 : Nat) : Int)]) ∧ w' = w) := mul64_any p q (by omega) (by omega)
  have HF := fun room hr => fit_words x y p q hp hq room hr
  by_cases cx : x < 0 <;> by_cases cy : y < 0
  · have HF' := HF 9223372036854775807 (by simp [cx, cy])
    by_cases hz : p * q / 18446744073709551616 = 0
    · rw [if_pos hz] at HF'
      rw [HF']
      rw [hz] at HM
      clear HF HF' hz hp hq d1 d2 d3 d4 hx hy
      generalize p * q % 18446744073709551616 = lo at *
      go_enter Tryd.func111, Tryd.ntmps111
      go_wp2_with (first | (go_at_call_of 112 (Value.int .i64 x); refine (HD1.out _).mono ?_; rintro e w1 ⟨rfl, hw⟩; rw [hw]; clear hw) | (go_at_call_of 112 (Value.int .i64 y); refine (HD2.out _).mono ?_; rintro e w1 ⟨rfl, hw⟩; rw [hw]; clear hw) | (go_at_call 114; refine (HM.out _).mono ?_; rintro e w1 ⟨rfl, hw⟩; rw [hw]; clear hw))
      go_ret2
      exact ⟨rfl, rfl⟩
    · rw [if_neg hz] at HF'
      rw [HF']
      have hz' := beq_no (show ((p * q / 18446744073709551616 : Nat) : Int) ≠ 0 by omega)
      clear HF HF' hz hp hq d1 d2 d3 d4 hx hy
      generalize p * q / 18446744073709551616 = hi at *
      generalize p * q % 18446744073709551616 = lo at *
      go_enter Tryd.func111, Tryd.ntmps111
      go_wp2_with (first | (go_at_call_of 112 (Value.int .i64 x); refine (HD1.out _).mono ?_; rintro e w1 ⟨rfl, hw⟩; rw [hw]; clear hw) | (go_at_call_of 112 (Value.int .i64 y); refine (HD2.out _).mono ?_; rintro e w1 ⟨rfl, hw⟩; rw [hw]; clear hw) | (go_at_call 114; refine (HM.out _).mono ?_; rintro e w1 ⟨rfl, hw⟩; rw [hw]; clear hw))
      go_ret2
      exact ⟨rfl, rfl⟩
  · have HF' := HF 9223372036854775808 (by simp [cx, cy])
    by_cases hz : p * q / 18446744073709551616 = 0
    · rw [if_pos hz] at HF'
      rw [HF']
      rw [hz] at HM
      clear HF HF' hz hp hq d1 d2 d3 d4 hx hy
      generalize p * q % 18446744073709551616 = lo at *
      go_enter Tryd.func111, Tryd.ntmps111
      go_wp2_with (first | (go_at_call_of 112 (Value.int .i64 x); refine (HD1.out _).mono ?_; rintro e w1 ⟨rfl, hw⟩; rw [hw]; clear hw) | (go_at_call_of 112 (Value.int .i64 y); refine (HD2.out _).mono ?_; rintro e w1 ⟨rfl, hw⟩; rw [hw]; clear hw) | (go_at_call 114; refine (HM.out _).mono ?_; rintro e w1 ⟨rfl, hw⟩; rw [hw]; clear hw))
      go_ret2
      exact ⟨rfl, rfl⟩
    · rw [if_neg hz] at HF'
      rw [HF']
      have hz' := beq_no (show ((p * q / 18446744073709551616 : Nat) : Int) ≠ 0 by omega)
      clear HF HF' hz hp hq d1 d2 d3 d4 hx hy
      generalize p * q / 18446744073709551616 = hi at *
      generalize p * q % 18446744073709551616 = lo at *
      go_enter Tryd.func111, Tryd.ntmps111
      go_wp2_with (first | (go_at_call_of 112 (Value.int .i64 x); refine (HD1.out _).mono ?_; rintro e w1 ⟨rfl, hw⟩; rw [hw]; clear hw) | (go_at_call_of 112 (Value.int .i64 y); refine (HD2.out _).mono ?_; rintro e w1 ⟨rfl, hw⟩; rw [hw]; clear hw) | (go_at_call 114; refine (HM.out _).mono ?_; rintro e w1 ⟨rfl, hw⟩; rw [hw]; clear hw))
      go_ret2
      exact ⟨rfl, rfl⟩
  · have HF' := HF 9223372036854775808 (by simp [cx, cy])
    by_cases hz : p * q / 18446744073709551616 = 0
    · rw [if_pos hz] at HF'
      rw [HF']
      rw [hz] at HM
      clear HF HF' hz hp hq d1 d2 d3 d4 hx hy
      generalize p * q % 18446744073709551616 = lo at *
      go_enter Tryd.func111, Tryd.ntmps111
      go_wp2_with (first | (go_at_call_of 112 (Value.int .i64 x); refine (HD1.out _).mono ?_; rintro e w1 ⟨rfl, hw⟩; rw [hw]; clear hw) | (go_at_call_of 112 (Value.int .i64 y); refine (HD2.out _).mono ?_; rintro e w1 ⟨rfl, hw⟩; rw [hw]; clear hw) | (go_at_call 114; refine (HM.out _).mono ?_; rintro e w1 ⟨rfl, hw⟩; rw [hw]; clear hw))
      go_ret2
      exact ⟨rfl, rfl⟩
    · rw [if_neg hz] at HF'
      rw [HF']
      have hz' := beq_no (show ((p * q / 18446744073709551616 : Nat) : Int) ≠ 0 by omega)
      clear HF HF' hz hp hq d1 d2 d3 d4 hx hy
      generalize p * q / 18446744073709551616 = hi at *
      generalize p * q % 18446744073709551616 = lo at *
      go_enter Tryd.func111, Tryd.ntmps111
      go_wp2_with (first | (go_at_call_of 112 (Value.int .i64 x); refine (HD1.out _).mono ?_; rintro e w1 ⟨rfl, hw⟩; rw [hw]; clear hw) | (go_at_call_of 112 (Value.int .i64 y); refine (HD2.out _).mono ?_; rintro e w1 ⟨rfl, hw⟩; rw [hw]; clear hw) | (go_at_call 114; refine (HM.out _).mono ?_; rintro e w1 ⟨rfl, hw⟩; rw [hw]; clear hw))
      go_ret2
      exact ⟨rfl, rfl⟩
  · have HF' := HF 9223372036854775807 (by simp [cx, cy])
    by_cases hz : p * q / 18446744073709551616 = 0
    · rw [if_pos hz] at HF'
      rw [HF']
      rw [hz] at HM
      clear HF HF' hz hp hq d1 d2 d3 d4 hx hy
      generalize p * q % 18446744073709551616 = lo at *
      go_enter Tryd.func111, Tryd.ntmps111
      go_wp2_with (first | (go_at_call_of 112 (Value.int .i64 x); refine (HD1.out _).mono ?_; rintro e w1 ⟨rfl, hw⟩; rw [hw]; clear hw) | (go_at_call_of 112 (Value.int .i64 y); refine (HD2.out _).mono ?_; rintro e w1 ⟨rfl, hw⟩; rw [hw]; clear hw) | (go_at_call 114; refine (HM.out _).mono ?_; rintro e w1 ⟨rfl, hw⟩; rw [hw]; clear hw))
      go_ret2
      exact ⟨rfl, rfl⟩
    · rw [if_neg hz] at HF'
      rw [HF']
      have hz' := beq_no (show ((p * q / 18446744073709551616 : Nat) : Int) ≠ 0 by omega)
      clear HF HF' hz hp hq d1 d2 d3 d4 hx hy
      generalize p * q / 18446744073709551616 = hi at *
      generalize p * q % 18446744073709551616 = lo at *
      go_enter Tryd.func111, Tryd.ntmps111
      go_wp2_with (first | (go_at_call_of 112 (Value.int .i64 x); refine (HD1.out _).mono ?_; rintro e w1 ⟨rfl, hw⟩; rw [hw]; clear hw) | (go_at_call_of 112 (Value.int .i64 y); refine (HD2.out _).mono ?_; rintro e w1 ⟨rfl, hw⟩; rw [hw]; clear hw) | (go_at_call 114; refine (HM.out _).mono ?_; rintro e w1 ⟨rfl, hw⟩; rw [hw]; clear hw))
      go_ret2
      exact ⟨rfl, rfl⟩
end Go.Proofs.YtfmkjdfidenfkaaDoor.S8
namespace Go.Proofs.YtfmkjdfidenfkaaDoor.S8
open Go.RowKit Go.Lib Go.Sort

/-- The divisors that are looked at, in their order; the quotients by the first ones of them. -/
def dvs (b : Sp) : List Int := [b.1, -1, 1, b.2]
def quoK (a b : Sp) (k : Nat) : List Int := quoL a (((dvs b).take k).filter fun d => d ≠ 0 ∧ b.1 ≤ d ∧ d ≤ b.2)
theorem quoK_all (a b : Sp) : quoK a b 4 = quoL a (cand b) := rfl
theorem quoK_succ {a b : Sp} {k : Nat} {d : Int} (h : (dvs b)[k]? = some d) : quoK a b (k + 1) = if d ≠ 0 ∧ b.1 ≤ d ∧ d ≤ b.2 then quoK a b k ++ [a.1.tdiv d, a.2.tdiv d] else quoK a b k := by
  unfold quoK
  rw [List.take_add_one, h]
  simp only [Option.toList_some, List.filter_append]
  by_cases hd : d ≠ 0 ∧ b.1 ≤ d ∧ d ≤ b.2
  · rw [if_pos hd, List.filter_cons, if_pos (by simpa using hd)]
    simp [quoL]
  · rw [if_neg hd, List.filter_cons, if_neg (by simpa using hd)]
    simp
theorem ix4 {bl bh d : Int} {k : Nat} (hlt : k < 4) (hd : (dvs (bl, bh))[k]? = some d) (w : World) : (Instr.index 125 (.agg #[.int .i64 bl, .int .i64 (-1), .int .i64 1, .int .i64 bh]) (.int .i64 k)).run Tryd.prog w = .ok (.int .i64 d) w := by
  have hz := Tryd.sizeOf2
  have ha := Tryd.isAgg2
  match k, hlt, hd with
  | 0, _, hd => simp [dvs] at hd; simp [Instr.index, asIntOf, run_underlying Tryd.underlying125, go_sem, *]
  | 1, _, hd => simp [dvs] at hd; simp [Instr.index, asIntOf, run_underlying Tryd.underlying125, go_sem, *]
  | 2, _, hd => simp [dvs] at hd; simp [Instr.index, asIntOf, run_underlying Tryd.underlying125, go_sem, *]
  | 3, _, hd => simp [dvs] at hd; simp [Instr.index, asIntOf, run_underlying Tryd.underlying125, go_sem, *]
theorem hasV (l h n : Int) (w : World) : Calls Tryd.prog 103 #[.agg #[.int .i64 l, .int .i64 h], .int .i64 n] w fun e w' => e = .returned (.bool (decide (l ≤ n ∧ n ≤ h))) ∧ Below w.heap.size w w' := has_any (l, h) n w
theorem nthV (w : World) : Calls Tryd.prog 107 #[] w fun e w' => e = .returned (.agg #[.int .i64 1, .int .i64 0]) ∧ Below w.heap.size w w' := nothing_any w
theorem hasT {l h n : Int} (H : l ≤ n ∧ n ≤ h) (w : World) : Calls Tryd.prog 103 #[.agg #[.int .i64 l, .int .i64 h], .int .i64 n] w fun e w' => e = .returned (.bool true) ∧ Below w.heap.size w w' := by
  have := hasV l h n w
  rwa [decide_eq_true H] at this
theorem hasF {l h n : Int} (H : ¬ (l ≤ n ∧ n ≤ h)) (w : World) : Calls Tryd.prog 103 #[.agg #[.int .i64 l, .int .i64 h], .int .i64 n] w fun e w' => e = .returned (.bool false) ∧ Below w.heap.size w w' := by
  have := hasV l h n w
  rwa [decide_eq_false H] at this
set_option maxHeartbeats 2000000 in
theorem quotients_all (al ah bl bh : Int) (h1 : al ≤ -9223372036854775808 ∧ -9223372036854775808 ≤ ah) (h2 : bl ≤ -1 ∧ -1 ≤ bh) (w : World) : Calls Tryd.prog 95 #[sv (al, ah), sv (bl, bh)] w fun e w' => e = .returned (sv allS) ∧ Below w.heap.size w w' := by
  have H1 : Hid (∀ w, Calls Tryd.prog 103 #[.agg #[.int .i64 al, .int .i64 ah], .int .i64 (-9223372036854775808)] w fun e w' => e = .returned (.bool true) ∧ Below w.heap.size w w') := hasT h1
  have H2 : Hid (∀ w, Calls Tryd.prog 103 #[.agg #[.int .i64 bl, .int .i64 bh], .int .i64 (-1)] w fun e w' => e = .returned (.bool true) ∧ Below w.heap.size w w') := hasT h2
  have HA := Hid.mk' allV
  have hb := fun (o1 o2 o3 : Obj) => (Below.one (Below.one (Below.one (Below.refl _ w) o1) o2) o3 : Below w.heap.size w _)
  clear h1 h2
  go_enter Tryd.func95, Tryd.ntmps95
  go_wp2_with (first | (go_at_call_of 103 (Value.agg #[Value.int .i64 al, Value.int .i64 ah]); refine (H1.out _).mono ?_; rintro e w1 ⟨rfl, hb1⟩; have A0 := At.stay (At.more (At.more (At.new w (al, ah)) _) _) hb1; have A1 := At.stay (At.more (At.new1 w (bl, bh) _) _) hb1; have A2 := At.stay (At.new2 w (0, 0) _ _) hb1; have y0 := A1.c0; have y1 := A1.c1) | (go_at_call_of 103 (Value.agg #[Value.int .i64 bl, Value.int .i64 bh]); refine (H2.out _).mono ?_; rintro e w2 ⟨rfl, hb2⟩) | (go_at_call 84; refine (HA.out _).mono ?_; rintro e w3 ⟨rfl, hb3⟩; have D2 := (A2.stay hb2).stay hb3; have z0 := D2.c0; have z1 := D2.c1; have z2 := D2.f0; have z3 := D2.f1))
  exact bodyPost_ret (v := sv allS) (by simp [results, Tryd.results95, go_sem, allS, *]) rfl ⟨rfl, ((Below.on (Below.on (Below.on (hb _ _ _) hb1) hb2) hb3).setCell (by simp; omega) _).setCell (by simp; omega) _⟩
end Go.Proofs.YtfmkjdfidenfkaaDoor.S8
namespace Go.Proofs.YtfmkjdfidenfkaaDoor.S8
open Go.RowKit Go.Lib Go.Sort

theorem pntV (n : Int) (w : World) : Calls Tryd.prog 100 #[.int .i64 n] w fun e w' => e = .returned (.agg #[.int .i64 n, .int .i64 n]) ∧ Below w.heap.size w w' := point_any n w
theorem joinV (al ah bl bh : Int) (w : World) : Calls Tryd.prog 76 #[.agg #[.int .i64 al, .int .i64 ah], .agg #[.int .i64 bl, .int .i64 bh]] w fun e w' => e = .returned (.agg #[.int .i64 (joinS (al, ah) (bl, bh)).1, .int .i64 (joinS (al, ah) (bl, bh)).2]) ∧ Below w.heap.size w w' := join_any (al, ah) (bl, bh) w
set_option maxHeartbeats 2000000 in
theorem quotients_loop (al ah bl bh : Int) (ha : Sp.Ok (al, ah)) (hle : al ≤ ah) (h1 : ¬ (al ≤ -9223372036854775808 ∧ -9223372036854775808 ≤ ah)) (w : World) : Calls Tryd.prog 95 #[sv (al, ah), sv (bl, bh)] w fun e w' => e = .returned (sv (hull (quoL (al, ah) (cand (bl, bh))))) ∧ Below w.heap.size w w' := by
  have H1 : Hid (∀ w, Calls Tryd.prog 103 #[.agg #[.int .i64 al, .int .i64 ah], .int .i64 (-9223372036854775808)] w fun e w' => e = .returned (.bool false) ∧ Below w.heap.size w w') := hasF h1
  have HN := Hid.mk' nthV
  have HR := Hid.mk' (quoK_all (al, ah) (bl, bh))
  generalize quoL (al, ah) (cand (bl, bh)) = R at *
  have hb := fun (o1 o2 o3 : Obj) => (Below.one (Below.one (Below.one (Below.refl _ w) o1) o2) o3 : Below w.heap.size w _)
  have hu : undef = Value.tuple #[] := rfl
  go_enter Tryd.func95, Tryd.ntmps95
  go_upto_region 4 with (first | (go_at_call_of 103 (Value.agg #[Value.int .i64 al, Value.int .i64 ah]); refine (H1.out _).mono ?_; rintro e w1 ⟨rfl, hb1⟩; have A0 := At.stay (At.more (At.more (At.new w (al, ah)) _) _) hb1; have A1 := At.stay (At.more (At.new1 w (bl, bh) _) _) hb1; have A2 := At.stay (At.new2 w (0, 0) _ _) hb1) | (go_at_call 107; refine (HN.out _).mono ?_; rintro e w2 ⟨rfl, hb2⟩))
  have B := Below.one (Below.on (Below.on (hb _ _ _) hb1) hb2) (.cells #[.int .i64 1, .int .i64 0] 54)
  replace A0 := (A0.stay hb2).more (.cells #[.int .i64 1, .int .i64 0] 54)
  replace A1 := (A1.stay hb2).more (.cells #[.int .i64 1, .int .i64 0] 54)
  replace A2 := (A2.stay hb2).more (.cells #[.int .i64 1, .int .i64 0] 54)
  have A3 := At.new w2 (1, 0)
  simp only at A3
  have hsz : w.heap.size + 2 < w2.heap.size := by have := hb1.size; have := hb2.size; simp only [World.size_alloc] at *; omega
  clear hb hb1 hb2 H1 HN
  generalize w2.alloc (.cells #[.int .i64 1, .int .i64 0] 54) = W at *
  generalize w2.heap.size = gO at *
  have z0 := A1.c0; have z1 := A1.c1
  go_wp2_with fail
  clear z0 z1
  go_loopw [21] (fun t21 wr => ∃ k : Nat, k ≤ 4 ∧ t21 = .int .i64 k ∧ At wr w.heap.size (al, ah) ∧ At wr (w.heap.size + 1) (bl, bh) ∧ At wr (w.heap.size + 1 + 1) (0, 0) ∧ At wr gO (hull (quoK (al, ah) (bl, bh) k)) ∧ Below w.heap.size w wr) (fun t21 _ => 4 - (intOf t21).toNat)
  case atStart => exact ⟨0, by omega, rfl, A0, A1, A2, A3, B⟩
  case round =>
    obtain ⟨k, hk, rfl, a0, a1, a2, a3, a4⟩ := hrel
    by_cases hlt : k < 4
    · have hli : (k : Int) < 4 := by omega
      obtain ⟨d, hd⟩ : ∃ d, (dvs (bl, bh))[k]? = some d := ⟨_, List.getElem?_eq_getElem (show k < (dvs (bl, bh)).length from hlt)⟩
      have hix := fun w => ix4 hlt hd w
      have z0 := a1.c0; have z1 := a1.c1
      by_cases hd0 : d = 0
      · have hd1 : (d == 0) = true := by simp [hd0]
        go_wp2_with fail
        go_roundw
        case rel =>
          refine ⟨k + 1, by omega, by go_num, a0, a1, a2, ?_, a4⟩
          rw [quoK_succ hd, if_neg (by simp only; omega)]
          exact a3
        case measure => simp [intOf]; omega
      · have hd1 := beq_no hd0
        by_cases hin : bl ≤ d ∧ d ≤ bh
        · have H5 : Hid (∀ w, Calls Tryd.prog 103 #[.agg #[.int .i64 bl, .int .i64 bh], .int .i64 d] w fun e w' => e = .returned (.bool true) ∧ Below w.heap.size w w') := hasT hin
          go_upto_region 8 with (go_at_call 103; refine (H5.out _).mono ?_; rintro e w5 ⟨rfl, hb5⟩)
          replace a0 := a0.stay hb5
          replace a1 := a1.stay hb5
          replace a2 := a2.stay hb5
          replace a3 := a3.stay hb5
          replace a4 := Below.on a4 hb5
          clear hb5 H5 z0 z1
          have n1 : Nm (al.tdiv d) := td_nm ha.1 hd0 (by unfold Sp.Ok Nm at ha; simp only at ha; omega)
          have n2 : Nm (ah.tdiv d) := td_nm ha.2 hd0 (by unfold Sp.Ok Nm at ha; simp only at ha; omega)
          have w1 : wrap64 (al.tdiv d) = al.tdiv d := wr_id n1
          have w2' : wrap64 (ah.tdiv d) = ah.tdiv d := wr_id n2
          have HJ1 := Hid.mk' (joinV (al.tdiv d) (al.tdiv d) (ah.tdiv d) (ah.tdiv d))
          have e2 : joinS (hull (quoK (al, ah) (bl, bh) k)) (joinS (al.tdiv d, al.tdiv d) (ah.tdiv d, ah.tdiv d)) = hull (quoK (al, ah) (bl, bh) (k + 1)) := by rw [hull_two, quoK_succ hd, if_pos ⟨hd0, hin⟩]
          have HJ2 := fun w => join_any (hull (quoK (al, ah) (bl, bh) k)) (joinS (al.tdiv d, al.tdiv d) (ah.tdiv d, ah.tdiv d)) w
          rw [e2] at HJ2
          have HJ2' := Hid.mk' HJ2
          clear e2 HJ2
          have HP := Hid.mk' pntV
          have u0 := a0.r0; have u1 := a0.r1; have u2 := a3.r0; have u3 := a3.r1
          generalize joinS (al.tdiv d, al.tdiv d) (ah.tdiv d, ah.tdiv d) = J at *
          generalize hull (quoK (al, ah) (bl, bh) k) = H at *
          refine region_below_tail 13 (by kernel_rfl) (by kernel_rfl) ?_
          simp only [List.take_succ_cons, List.take_zero, List.drop_succ_cons, List.drop_zero]
          repeat (go_big_quiet_step (first | (go_at_call 100; with_reducible exact Calls.regrown_of (HP.out _ _)) | (go_at_call 76; with_reducible exact Calls.regrown_of (HJ1.out _)) | (go_at_call 76; with_reducible exact Calls.regrown_of (HJ2'.out _))))
          refine wpQuiet_nil ?_
          intro _ hw'
          obtain ⟨⟨dq, osq⟩, hw''⟩ := hw'
          subst hw''
          clear u0 u1 u2 u3 HJ1 HJ2' HP
          have B5 : Below w5.heap.size w5 (grow (redrawn w5 dq) osq) := below_regrown _ dq osq
          replace a0 := a0.stay B5
          replace a1 := a1.stay B5
          replace a2 := a2.stay B5
          replace a3 := a3.stay B5
          replace a4 := Below.on a4 B5
          clear B5
          simp only
          generalize grow (redrawn w5 dq) osq = W5 at *
          have z2 := a3.f0; have z3 := a3.f1; have z4 := a3.c0; have z5 := a3.c1
          go_wp2_with fail
          go_roundw
          case rel => exact ⟨k + 1, by omega, by go_num, a0.ne (by omega) _ _, a1.ne (by omega) _ _, a2.ne (by omega) _ _, a3.put _, Below.put a4 (by omega) _ _⟩
          case measure => simp [intOf]; omega
        · have H5 : Hid (∀ w, Calls Tryd.prog 103 #[.agg #[.int .i64 bl, .int .i64 bh], .int .i64 d] w fun e w' => e = .returned (.bool false) ∧ Below w.heap.size w w') := hasF hin
          go_wp2_with (go_at_call 103; refine (H5.out _).mono ?_; rintro e w5 ⟨rfl, hb5⟩)
          go_roundw
          case rel =>
            refine ⟨k + 1, by omega, by go_num, a0.stay hb5, a1.stay hb5, a2.stay hb5, ?_, Below.on a4 hb5⟩
            rw [quoK_succ hd, if_neg (by simp only; omega)]
            exact a3.stay hb5
          case measure => simp [intOf]; omega
    · have hk4 : k = 4 := by omega
      subst hk4
      rw [HR.out] at a3
      have hli : ¬ ((4 : Nat) : Int) < 4 := by omega
      have z0 := a3.c0; have z1 := a3.c1; have y0 := a2.c0; have y1 := a2.c1; have y2 := a2.f0; have y3 := a2.f1
      go_wp2_with fail
      exact bodyPost_ret (v := sv (hull R)) (by simp [results, Tryd.results95, go_sem, *]) rfl ⟨rfl, (a4.setCell (by simp; omega) _).setCell (by simp; omega) _⟩
set_option maxHeartbeats 2000000 in
theorem quotients_loop2 (al ah bl bh : Int) (ha : Sp.Ok (al, ah)) (h1 : al ≤ -9223372036854775808 ∧ -9223372036854775808 ≤ ah) (h2 : ¬ (bl ≤ -1 ∧ -1 ≤ bh)) (w : World) : Calls Tryd.prog 95 #[sv (al, ah), sv (bl, bh)] w fun e w' => e = .returned (sv (hull (quoL (al, ah) (cand (bl, bh))))) ∧ Below w.heap.size w w' := by
  have H1 : Hid (∀ w, Calls Tryd.prog 103 #[.agg #[.int .i64 al, .int .i64 ah], .int .i64 (-9223372036854775808)] w fun e w' => e = .returned (.bool true) ∧ Below w.heap.size w w') := hasT h1
  have H2 : Hid (∀ w, Calls Tryd.prog 103 #[.agg #[.int .i64 bl, .int .i64 bh], .int .i64 (-1)] w fun e w' => e = .returned (.bool false) ∧ Below w.heap.size w w') := hasF h2
  have HN := Hid.mk' nthV
  have HR := Hid.mk' (quoK_all (al, ah) (bl, bh))
  generalize quoL (al, ah) (cand (bl, bh)) = R at *
  have hb := fun (o1 o2 o3 : Obj) => (Below.one (Below.one (Below.one (Below.refl _ w) o1) o2) o3 : Below w.heap.size w _)
  go_enter Tryd.func95, Tryd.ntmps95
  go_upto_region 4 with (first | (go_at_call_of 103 (Value.agg #[Value.int .i64 al, Value.int .i64 ah]); refine (H1.out _).mono ?_; rintro e w1 ⟨rfl, hb1⟩; have A0 := At.stay (At.more (At.more (At.new w (al, ah)) _) _) hb1; have A1 := At.stay (At.more (At.new1 w (bl, bh) _) _) hb1; have A2 := At.stay (At.new2 w (0, 0) _ _) hb1; have y0 := A1.c0; have y1 := A1.c1) | (go_at_call_of 103 (Value.agg #[Value.int .i64 bl, Value.int .i64 bh]); refine (H2.out _).mono ?_; rintro e w3 ⟨rfl, hb3⟩) | (go_at_call 107; refine (HN.out _).mono ?_; rintro e w2 ⟨rfl, hb4⟩; have hb2 := Below.on hb3 hb4))
  have B := Below.one (Below.on (Below.on (hb _ _ _) hb1) hb2) (.cells #[.int .i64 1, .int .i64 0] 54)
  replace A0 := (A0.stay hb2).more (.cells #[.int .i64 1, .int .i64 0] 54)
  replace A1 := (A1.stay hb2).more (.cells #[.int .i64 1, .int .i64 0] 54)
  replace A2 := (A2.stay hb2).more (.cells #[.int .i64 1, .int .i64 0] 54)
  have A3 := At.new w2 (1, 0)
  simp only at A3
  have hsz : w.heap.size + 2 < w2.heap.size := by have := hb1.size; have := hb2.size; simp only [World.size_alloc] at *; omega
  clear hb hb1 hb2 hb3 hb4 H1 H2 HN y0 y1
  generalize w2.alloc (.cells #[.int .i64 1, .int .i64 0] 54) = W at *
  generalize w2.heap.size = gO at *
  have z0 := A1.c0; have z1 := A1.c1
  go_wp2_with fail
  clear z0 z1
  go_loopw [21] (fun t21 wr => ∃ k : Nat, k ≤ 4 ∧ t21 = .int .i64 k ∧ At wr w.heap.size (al, ah) ∧ At wr (w.heap.size + 1) (bl, bh) ∧ At wr (w.heap.size + 1 + 1) (0, 0) ∧ At wr gO (hull (quoK (al, ah) (bl, bh) k)) ∧ Below w.heap.size w wr) (fun t21 _ => 4 - (intOf t21).toNat)
  case atStart => exact ⟨0, by omega, rfl, A0, A1, A2, A3, B⟩
  case round =>
    obtain ⟨k, hk, rfl, a0, a1, a2, a3, a4⟩ := hrel
    by_cases hlt : k < 4
    · have hli : (k : Int) < 4 := by omega
      obtain ⟨d, hd⟩ : ∃ d, (dvs (bl, bh))[k]? = some d := ⟨_, List.getElem?_eq_getElem (show k < (dvs (bl, bh)).length from hlt)⟩
      have hix := fun w => ix4 hlt hd w
      have z0 := a1.c0; have z1 := a1.c1
      by_cases hd0 : d = 0
      · have hd1 : (d == 0) = true := by simp [hd0]
        go_wp2_with fail
        go_roundw
        case rel =>
          refine ⟨k + 1, by omega, by go_num, a0, a1, a2, ?_, a4⟩
          rw [quoK_succ hd, if_neg (by simp only; omega)]
          exact a3
        case measure => simp [intOf]; omega
      · have hd1 := beq_no hd0
        by_cases hin : bl ≤ d ∧ d ≤ bh
        · have H5 : Hid (∀ w, Calls Tryd.prog 103 #[.agg #[.int .i64 bl, .int .i64 bh], .int .i64 d] w fun e w' => e = .returned (.bool true) ∧ Below w.heap.size w w') := hasT hin
          go_upto_region 8 with (go_at_call 103; refine (H5.out _).mono ?_; rintro e w5 ⟨rfl, hb5⟩)
          replace a0 := a0.stay hb5
          replace a1 := a1.stay hb5
          replace a2 := a2.stay hb5
          replace a3 := a3.stay hb5
          replace a4 := Below.on a4 hb5
          clear hb5 H5 z0 z1
          have n1 : Nm (al.tdiv d) := td_nm ha.1 hd0 (by unfold Sp.Ok Nm at ha; simp only at ha; omega)
          have n2 : Nm (ah.tdiv d) := td_nm ha.2 hd0 (by unfold Sp.Ok Nm at ha; simp only at ha; omega)
          have w1 : wrap64 (al.tdiv d) = al.tdiv d := wr_id n1
          have w2' : wrap64 (ah.tdiv d) = ah.tdiv d := wr_id n2
          have HJ1 := Hid.mk' (joinV (al.tdiv d) (al.tdiv d) (ah.tdiv d) (ah.tdiv d))
          have e2 : joinS (hull (quoK (al, ah) (bl, bh) k)) (joinS (al.tdiv d, al.tdiv d) (ah.tdiv d, ah.tdiv d)) = hull (quoK (al, ah) (bl, bh) (k + 1)) := by rw [hull_two, quoK_succ hd, if_pos ⟨hd0, hin⟩]
          have HJ2 := fun w => join_any (hull (quoK (al, ah) (bl, bh) k)) (joinS (al.tdiv d, al.tdiv d) (ah.tdiv d, ah.tdiv d)) w
          rw [e2] at HJ2
          have HJ2' := Hid.mk' HJ2
          clear e2 HJ2
          have HP := Hid.mk' pntV
          have u0 := a0.r0; have u1 := a0.r1; have u2 := a3.r0; have u3 := a3.r1
          generalize joinS (al.tdiv d, al.tdiv d) (ah.tdiv d, ah.tdiv d) = J at *
          generalize hull (quoK (al, ah) (bl, bh) k) = H at *
          refine region_below_tail 13 (by kernel_rfl) (by kernel_rfl) ?_
          simp only [List.take_succ_cons, List.take_zero, List.drop_succ_cons, List.drop_zero]
          repeat (go_big_quiet_step (first | (go_at_call 100; with_reducible exact Calls.regrown_of (HP.out _ _)) | (go_at_call 76; with_reducible exact Calls.regrown_of (HJ1.out _)) | (go_at_call 76; with_reducible exact Calls.regrown_of (HJ2'.out _))))
          refine wpQuiet_nil ?_
          intro _ hw'
          obtain ⟨⟨dq, osq⟩, hw''⟩ := hw'
          subst hw''
          clear u0 u1 u2 u3 HJ1 HJ2' HP
          have B5 : Below w5.heap.size w5 (grow (redrawn w5 dq) osq) := below_regrown _ dq osq
          replace a0 := a0.stay B5
          replace a1 := a1.stay B5
          replace a2 := a2.stay B5
          replace a3 := a3.stay B5
          replace a4 := Below.on a4 B5
          clear B5
          simp only
          generalize grow (redrawn w5 dq) osq = W5 at *
          have z2 := a3.f0; have z3 := a3.f1; have z4 := a3.c0; have z5 := a3.c1
          go_wp2_with fail
          go_roundw
          case rel => exact ⟨k + 1, by omega, by go_num, a0.ne (by omega) _ _, a1.ne (by omega) _ _, a2.ne (by omega) _ _, a3.put _, Below.put a4 (by omega) _ _⟩
          case measure => simp [intOf]; omega
        · have H5 : Hid (∀ w, Calls Tryd.prog 103 #[.agg #[.int .i64 bl, .int .i64 bh], .int .i64 d] w fun e w' => e = .returned (.bool false) ∧ Below w.heap.size w w') := hasF hin
          go_wp2_with (go_at_call 103; refine (H5.out _).mono ?_; rintro e w5 ⟨rfl, hb5⟩)
          go_roundw
          case rel =>
            refine ⟨k + 1, by omega, by go_num, a0.stay hb5, a1.stay hb5, a2.stay hb5, ?_, Below.on a4 hb5⟩
            rw [quoK_succ hd, if_neg (by simp only; omega)]
            exact a3.stay hb5
          case measure => simp [intOf]; omega
    · have hk4 : k = 4 := by omega
      subst hk4
      rw [HR.out] at a3
      have hli : ¬ ((4 : Nat) : Int) < 4 := by omega
      have z0 := a3.c0; have z1 := a3.c1; have y0 := a2.c0; have y1 := a2.c1; have y2 := a2.f0; have y3 := a2.f1
      go_wp2_with fail
      exact bodyPost_ret (v := sv (hull R)) (by simp [results, Tryd.results95, go_sem, *]) rfl ⟨rfl, (a4.setCell (by simp; omega) _).setCell (by simp; omega) _⟩
theorem quotients_any (a b : Sp) (ha : a.Ok) (hle : a.1 ≤ a.2) (w : World) : Calls Tryd.prog 95 #[sv a, sv b] w fun e w' => e = .returned (sv (quoS a b)) ∧ Below w.heap.size w w' := by
  obtain ⟨al, ah⟩ := a
  obtain ⟨bl, bh⟩ := b
  by_cases h1 : al ≤ -9223372036854775808 ∧ -9223372036854775808 ≤ ah
  · by_cases h2 : bl ≤ -1 ∧ -1 ≤ bh
    · have e : quoS (al, ah) (bl, bh) = allS := if_pos (by simp only [hasB]; rw [decide_eq_true h1, decide_eq_true h2]; rfl)
      rw [e]
      exact quotients_all al ah bl bh h1 h2 w
    · have e : quoS (al, ah) (bl, bh) = hull (quoL (al, ah) (cand (bl, bh))) := if_neg (by simp only [hasB]; rw [decide_eq_false h2]; simp)
      rw [e]
      exact quotients_loop2 al ah bl bh ha h1 h2 w
  · have e : quoS (al, ah) (bl, bh) = hull (quoL (al, ah) (cand (bl, bh))) := if_neg (by simp only [hasB]; rw [decide_eq_false h1]; simp)
    rw [e]
    exact quotients_loop al ah bl bh ha hle h1 w
end Go.Proofs.YtfmkjdfidenfkaaDoor.S8
namespace Go.Proofs.YtfmkjdfidenfkaaDoor.S8
open Go.RowKit Go.Lib Go.Sort

def hulK (a b : Sp) (m : Nat) : Sp := hull (((corners a b).take m).map wr)
def fitK (a b : Sp) (m : Nat) : Bool := ((corners a b).take m).all fitB
theorem hulK_succ {a b : Sp} {m : Nat} {v : Int} (h : (corners a b)[m]? = some v) : joinS (hulK a b m) (wrap64 v, wrap64 v) = hulK a b (m + 1) := by
  unfold hulK
  rw [List.take_add_one, h, hull_snoc]
  simp
theorem fitK_succ {a b : Sp} {m : Nat} {v : Int} (h : (corners a b)[m]? = some v) : fitK a b (m + 1) = (fitK a b m && fitB v) := by
  unfold fitK
  rw [List.take_add_one, h]
  simp
theorem ix2 {x y d : Int} {k : Nat} (hlt : k < 2) (hd : ([x, y] : List Int)[k]? = some d) (w : World) : (Instr.index 127 (.agg #[.int .i64 x, .int .i64 y]) (.int .i64 k)).run Tryd.prog w = .ok (.int .i64 d) w := by
  have hz := Tryd.sizeOf2
  have ha := Tryd.isAgg2
  match k, hlt, hd with
  | 0, _, hd => simp at hd; simp [Instr.index, asIntOf, run_underlying Tryd.underlying127, go_sem, *]
  | 1, _, hd => simp at hd; simp [Instr.index, asIntOf, run_underlying Tryd.underlying127, go_sem, *]
theorem corner_at {al ah bl bh x y : Int} {k j : Nat} (hk : k < 2) (hj : j < 2) (hx : ([al, ah] : List Int)[k]? = some x) (hy : ([bl, bh] : List Int)[j]? = some y) : (corners (al, ah) (bl, bh))[2 * k + j]? = some (x * y) := by
  match k, j, hk, hj, hx, hy with
  | 0, 0, _, _, hx, hy => simp at hx hy; simp [corners, hx, hy]
  | 0, 1, _, _, hx, hy => simp at hx hy; simp [corners, hx, hy]
  | 1, 0, _, _, hx, hy => simp at hx hy; simp [corners, hx, hy]
  | 1, 1, _, _, hx, hy => simp at hx hy; simp [corners, hx, hy]
theorem two_nm {x y d : Int} {k : Nat} (hx : Nm x) (hy : Nm y) (hd : ([x, y] : List Int)[k]? = some d) : Nm d := by
  match k, hd with
  | 0, hd => simp at hd; exact hd ▸ hx
  | 1, hd => simp at hd; exact hd ▸ hy
  | k + 2, hd => simp at hd

set_option maxHeartbeats 2000000 in
theorem products_any (a b : Sp) (ha : a.Ok) (hb' : b.Ok) (w : World) : Calls Tryd.prog 98 #[sv a, sv b] w fun e w' => e = .returned (sv (proS a b)) ∧ Below w.heap.size w w' := by
  obtain ⟨al, ah⟩ := a
  obtain ⟨bl, bh⟩ := b
  have HN := Hid.mk' nthV
  have HS := Hid.mk' fun w => settle_any (al, ah) (bl, bh) (hulK (al, ah) (bl, bh) 4) (fitK (al, ah) (bl, bh) 4) w
  have eS : setS (al, ah) (bl, bh) (hulK (al, ah) (bl, bh) 4) (fitK (al, ah) (bl, bh) 4) = proS (al, ah) (bl, bh) := rfl
  rw [eS] at HS
  generalize proS (al, ah) (bl, bh) = R at *
  obtain ⟨R1, R2⟩ := R
  clear eS
  have hb := fun (o1 o2 o3 : Obj) => (Below.one (Below.one (Below.one (Below.refl _ w) o1) o2) o3 : Below w.heap.size w _)
  go_enter Tryd.func98, Tryd.ntmps98
  go_upto_region 2 with (go_at_call 107; refine (HN.out _).mono ?_; rintro e w2 ⟨rfl, hb2⟩)
  have A0 := (At.stay (At.more (At.more (At.new w (al, ah)) _) _) hb2).more (.cells #[.int .i64 1, .int .i64 0] 54)
  have A1 := (At.stay (At.more (At.new1 w (bl, bh) _) _) hb2).more (.cells #[.int .i64 1, .int .i64 0] 54)
  have A2 := (At.stay (At.new2 w (0, 0) _ _) hb2).more (.cells #[.int .i64 1, .int .i64 0] 54)
  have B := Below.one (Below.on (hb _ _ _) hb2) (.cells #[.int .i64 1, .int .i64 0] 54)
  have A3 := At.new w2 (1, 0)
  simp only at A3
  have hsz : w.heap.size + 2 < w2.heap.size := by have := hb2.size; simp only [World.size_alloc] at *; omega
  clear hb hb2 HN
  generalize w2.alloc (.cells #[.int .i64 1, .int .i64 0] 54) = W at *
  generalize w2.heap.size = gO at *
  have z0 := A0.c0; have z1 := A0.c1
  go_wp2_with fail
  clear z0 z1
  go_loopw [6, 19] (fun t6 t19 wr => ∃ k : Nat, k ≤ 2 ∧ t19 = .int .i64 k ∧ t6 = .bool (fitK (al, ah) (bl, bh) (2 * k)) ∧ At wr w.heap.size (al, ah) ∧ At wr (w.heap.size + 1) (bl, bh) ∧ At wr (w.heap.size + 1 + 1) (0, 0) ∧ At wr gO (hulK (al, ah) (bl, bh) (2 * k)) ∧ Below w.heap.size w wr) (fun _ t19 _ => 2 - (intOf t19).toNat)
  case atStart => exact ⟨0, by omega, rfl, rfl, A0, A1, A2, A3, B⟩
  case round =>
    clear A0 A1 A2 A3 B
    obtain ⟨k, hk, rfl, rfl, a0, a1, a2, a3, a4⟩ := hrel
    by_cases hlt : k < 2
    · have hli : (k : Int) < 2 := by omega
      obtain ⟨x, hx⟩ : ∃ d, ([al, ah] : List Int)[k]? = some d := ⟨_, List.getElem?_eq_getElem (show k < [al, ah].length from hlt)⟩
      have hix := fun w => ix2 hlt hx w
      have z0 := a1.c0; have z1 := a1.c1
      go_wp2_with fail
      clear z0 z1 hix
      go_loopw [6, 27] (fun t6 t27 wr => ∃ j : Nat, j ≤ 2 ∧ t27 = .int .i64 j ∧ t6 = .bool (fitK (al, ah) (bl, bh) (2 * k + j)) ∧ At wr w.heap.size (al, ah) ∧ At wr (w.heap.size + 1) (bl, bh) ∧ At wr (w.heap.size + 1 + 1) (0, 0) ∧ At wr gO (hulK (al, ah) (bl, bh) (2 * k + j)) ∧ Below w.heap.size w wr) (fun _ t27 _ => 2 - (intOf t27).toNat)
      case atStart => exact ⟨0, by omega, rfl, rfl, a0, a1, a2, a3, a4⟩
      case round =>
        clear a0 a1 a2 a3 a4
        obtain ⟨j, hj, rfl, rfl, a0, a1, a2, a3, a4⟩ := hrel
        by_cases hjt : j < 2
        · have hji : (j : Int) < 2 := by omega
          obtain ⟨y, hy⟩ : ∃ d, ([bl, bh] : List Int)[j]? = some d := ⟨_, List.getElem?_eq_getElem (show j < [bl, bh].length from hjt)⟩
          have hiy := fun w => ix2 hjt hy w
          have hc := corner_at hlt hjt hx hy
          have HP := Hid.mk' (product_any x y (two_nm ha.1 ha.2 hx) (two_nm hb'.1 hb'.2 hy))
          have e1 := hulK_succ hc
          have HF := Hid.mk' (fitK_succ hc)
          have HJ := fun w => join_any (hulK (al, ah) (bl, bh) (2 * k + j)) (wrap64 (x * y), wrap64 (x * y)) w
          rw [e1] at HJ
          have HJ' := Hid.mk' HJ
          have HPT := Hid.mk' pntV
          clear HJ e1 hc
          go_upto_region 9 with (go_at_call 111; refine (HP.out _).mono ?_; rintro e w5 ⟨rfl, hw5⟩; rw [hw5]; clear hw5)
          have u2 := a3.r0; have u3 := a3.r1
          clear HP hiy
          generalize hn : wrap64 (x * y) = n at *
          generalize hf : fitB (x * y) = f at *
          generalize hulK (al, ah) (bl, bh) (2 * k + j) = H at *
          refine region_below_tail 4 (by kernel_rfl) (by kernel_rfl) ?_
          simp only [List.take_succ_cons, List.take_zero, List.drop_succ_cons, List.drop_zero]
          repeat (go_big_quiet_step (first | (go_at_call 100; with_reducible exact Calls.regrown_of (HPT.out _ _)) | (go_at_call 76; with_reducible exact Calls.regrown_of (HJ'.out _))))
          refine wpQuiet_nil ?_
          intro _ hw'
          obtain ⟨⟨dq, osq⟩, hw''⟩ := hw'
          subst hw''
          clear u2 u3 HJ' HPT
          have B5 : Below wr.heap.size wr (grow (redrawn wr dq) osq) := below_regrown _ dq osq
          replace a0 := a0.stay B5
          replace a1 := a1.stay B5
          replace a2 := a2.stay B5
          replace a3 := a3.stay B5
          replace a4 := Below.on a4 B5
          clear B5
          simp only
          generalize grow (redrawn wr dq) osq = W5 at *
          have z2 := a3.f0; have z3 := a3.f1; have z4 := a3.c0; have z5 := a3.c1
          generalize hF : fitK (al, ah) (bl, bh) (2 * k + j) = F at *
          cases F
          all_goals
            go_wp2_with fail
            go_roundw
            case rel => exact ⟨j + 1, by omega, by go_num, by rw [← Nat.add_assoc, HF.out]; rfl, a0.ne (by omega) _ _, a1.ne (by omega) _ _, a2.ne (by omega) _ _, a3.put _, Below.put a4 (by omega) _ _⟩
            case measure => simp [intOf]; omega
        · have hj2 : j = 2 := by omega
          subst hj2
          have hji : ¬ ((2 : Nat) : Int) < 2 := by omega
          go_wp2_with fail
          go_roundw
          case rel => exact ⟨k + 1, by omega, by go_num, rfl, a0, a1, a2, a3, a4⟩
          case measure => simp [intOf]; omega
    · have hk4 : k = 2 := by omega
      subst hk4
      have hli : ¬ ((2 : Nat) : Int) < 2 := by omega
      have z0 := a3.c0; have z1 := a3.c1; have y0 := a0.c0; have y1 := a0.c1; have x0 := a1.c0; have x1 := a1.c1
      simp only [show 2 * 2 = 4 from rfl] at *
      generalize hulK (al, ah) (bl, bh) 4 = H at *
      generalize fitK (al, ah) (bl, bh) 4 = F at *
      go_wp2_with (go_at_call 109; refine (HS.out _).mono ?_; rintro e w6 ⟨rfl, hb6⟩; have D2 := a2.stay hb6; have t0 := D2.c0; have t1 := D2.c1; have t2 := D2.f0; have t3 := D2.f1)
      exact bodyPost_ret (v := sv (R1, R2)) (by simp [results, Tryd.results98, go_sem, *]) rfl ⟨rfl, Below.put (Below.on a4 hb6) (by omega) _ _⟩
end Go.Proofs.YtfmkjdfidenfkaaDoor.S8
