/- slices.Equal at numbers, spans and instructions; sameFunc; slices.EqualFunc; code.Same. -/
import Derived.Test.YtlkoigdnakmdlaaDoorCa
namespace Go.Proofs.YtlkoigdnakmdlaaDoor
open Go.RowKit Go.Sort

theorem equalIn_sp (x y : Sp) (w : World) : (Op.equalIn 10000 71 (.agg #[.int .i64 x.1, .int .i64 x.2]) (.agg #[.int .i64 y.1, .int .i64 y.2])).run Tryd.prog w = .ok (samP x y) w := by
  have u2 := Tryd.underlying2
  have a2 := Tryd.isAgg2
  have z2 := Tryd.sizeOf2
  have hS : Tryd.prog.underlying 71 = some (.struct (Tryd.prog.fieldsOf 71)) := by kernel_rfl
  have hp : Tryd.prog.stoodInHeld 71 = false := by kernel_rfl
  rw [show (10000 : Nat) = 9999 + 1 from rfl, run_equalIn_agg w 9999 71 _ _ hS hp]
  simp only [Program.fieldsOf, Tryd.underlying71]
  go_simp
  unfold samP
  by_cases h1 : x.1 = y.1 <;> by_cases h2 : x.2 = y.2 <;> simp [h1, h2]
theorem equalIn_is (x y : Is) (w : World) : (Op.equalIn 10000 27 (.agg #[.int .i64 x.op, .int .i64 x.a, .int .i64 x.b, .int .i64 x.c, .int .i64 x.n]) (.agg #[.int .i64 y.op, .int .i64 y.a, .int .i64 y.b, .int .i64 y.c, .int .i64 y.n])).run Tryd.prog w = .ok (samX x y) w := by
  have u2 := Tryd.underlying2
  have a2 := Tryd.isAgg2
  have z2 := Tryd.sizeOf2
  have u3 := Tryd.underlying3
  have a3 := Tryd.isAgg3
  have z3 := Tryd.sizeOf3
  have hS : Tryd.prog.underlying 27 = some (.struct (Tryd.prog.fieldsOf 27)) := by kernel_rfl
  have hp : Tryd.prog.stoodInHeld 27 = false := by kernel_rfl
  rw [show (10000 : Nat) = 9999 + 1 from rfl, run_equalIn_agg w 9999 27 _ _ hS hp]
  simp only [Program.fieldsOf, Tryd.underlying27]
  go_simp
  unfold samX
  by_cases h1 : x.op = y.op <;> by_cases h2 : x.a = y.a <;> by_cases h3 : x.b = y.b <;> by_cases h4 : x.c = y.c <;> by_cases h5 : x.n = y.n <;> simp [h1, h2, h3, h4, h5]

set_option maxRecDepth 100000 in
set_option maxHeartbeats 4000000 in
theorem equalI_any (l t : List Int) (a a' : Option Addr) (c c' : Nat) (w : World) (hin : Thr w a l) (hin' : Thr w a' t) :
    Calls Tryd.prog 38 #[.slice a l.length c, .slice a' t.length c'] w fun e w' => e = .returned (.bool (samI l t)) ∧ Below w.heap.size w w' := by
  have HA := Hid.mk' hin
  have HB := Hid.mk' hin'
  have hc := hin.1
  have hc' := hin'.1
  clear hin hin'
  by_cases hle : l.length = t.length
  · have HL : Hid (l.length = t.length) := hle
    rw [← hle]
    clear hle hc'
    go_enter Tryd.func38, Tryd.ntmps38
    go_wp2_with fail
    go_loopw [13] (fun t13 wr => ∃ (j nq : Nat), j ≤ l.length ∧ t13 = .int .i64 j ∧ samI (l.drop j) (t.drop j) = samI l t ∧ wr = w.drewN nq) (fun t13 _ => l.length - (intOf t13).toNat)
    case atStart => exact ⟨0, 0, Nat.zero_le _, rfl, rfl, rfl⟩
    case round =>
      obtain ⟨j, nq, hj, rfl, hcnt, rfl⟩ := hrel
      have HC : Hid (samI (l.drop j) (t.drop j) = samI l t) := hcnt
      clear hcnt
      by_cases hlt : j < l.length
      · have hlt' : j < t.length := by have := HL.out; omega
        obtain ⟨b, o, rfl, c0⟩ := thr_at HA.out hlt
        obtain ⟨b', o', rfl, d0⟩ := thr_at HB.out hlt'
        have hli : (j : Int) < (l.length : Int) := by omega
        have HD : Hid (samI (l.drop j) (t.drop j) = (l[j] == t[j] && samI (l.drop (j + 1)) (t.drop (j + 1)))) := samI_drop hlt hlt'
        generalize l[j] = x at *
        generalize t[j] = y at *
        clear hlt'
        go_wp2_with fail
        go_quiet (fail)
        cases ev : (x == y)
        · have ev' : (x != y) = true := by simp [bne, ev]
          rw [ev] at HD
          go_wp2_with fail
          go_ret
          exact ⟨ret_bool (by rw [← HC.out, HD.out]; rfl), ((Below.refl _ w).drewN _).drewN _⟩
        · have ev' : (x != y) = false := by simp [bne, ev]
          rw [ev] at HD
          go_wp2_with fail
          go_roundw
          case rel => exact ⟨j + 1, _, by omega, by go_num, by rw [← HC.out, HD.out]; rfl, rfl⟩
          case measure => simp [intOf]; omega
      · go_wp2_with fail
        go_ret
        refine ⟨ret_bool ?_, (Below.refl _ w).drewN _⟩
        rw [← HC.out, List.drop_eq_nil_of_le (by omega), List.drop_eq_nil_of_le (by have := HL.out; omega)]; rfl
  · have hne : ((l.length : Int) != (t.length : Int)) = true := by simp only [bne_iff_ne]; omega
    go_enter Tryd.func38, Tryd.ntmps38
    go_wp2_with fail
    go_ret
    exact ⟨ret_bool (by rw [samI_len hle]), Below.refl _ w⟩
set_option maxRecDepth 100000 in
set_option maxHeartbeats 4000000 in
theorem equalP_any (l t : List Sp) (a a' : Option Addr) (c c' : Nat) (w : World) (hin : Sps w a l) (hin' : Sps w a' t) :
    Calls Tryd.prog 50 #[.slice a l.length c, .slice a' t.length c'] w fun e w' => e = .returned (.bool (samPs l t)) ∧ Below w.heap.size w w' := by
  have HA := Hid.mk' hin
  have HB := Hid.mk' hin'
  have hc := hin.1
  have hc' := hin'.1
  clear hin hin'
  by_cases hle : l.length = t.length
  · have HL : Hid (l.length = t.length) := hle
    rw [← hle]
    clear hle hc'
    go_enter Tryd.func50, Tryd.ntmps50
    go_wp2_with fail
    go_loopw [13] (fun t13 wr => ∃ (j nq : Nat), j ≤ l.length ∧ t13 = .int .i64 j ∧ samPs (l.drop j) (t.drop j) = samPs l t ∧ wr = w.drewN nq) (fun t13 _ => l.length - (intOf t13).toNat)
    case atStart => exact ⟨0, 0, Nat.zero_le _, rfl, rfl, rfl⟩
    case round =>
      obtain ⟨j, nq, hj, rfl, hcnt, rfl⟩ := hrel
      have HC : Hid (samPs (l.drop j) (t.drop j) = samPs l t) := hcnt
      clear hcnt
      by_cases hlt : j < l.length
      · have hlt' : j < t.length := by have := HL.out; omega
        obtain ⟨b, o, rfl, c0, c1⟩ := sps_at HA.out hlt
        obtain ⟨b', o', rfl, d0, d1⟩ := sps_at HB.out hlt'
        have hli : (j : Int) < (l.length : Int) := by omega
        have HD : Hid (samPs (l.drop j) (t.drop j) = (samP l[j] t[j] && samPs (l.drop (j + 1)) (t.drop (j + 1)))) := samPs_drop hlt hlt'
        generalize l[j] = x at *
        generalize t[j] = y at *
        clear hlt'
        go_wp2_with fail
        have hq := fun w => equalIn_sp x y w
        have hg : ∀ (w : World) (op : BinOp) (a b : Operand) (xs ys : Array Value), (eqGuard op 71 a b (.agg xs) (.agg ys)).run Tryd.prog w = .ok () w := fun w op a b xs ys => run_eqGuard_agg w op 71 a b xs ys (by kernel_rfl)
        go_quiet (fail)
        clear hq hg
        cases ev : samP x y
        · rw [ev] at HD
          go_wp2_with fail
          go_ret
          exact ⟨ret_bool (by rw [← HC.out, HD.out]; rfl), ((Below.refl _ w).drewN _).drewN _⟩
        · rw [ev] at HD
          go_wp2_with fail
          go_roundw
          case rel => exact ⟨j + 1, _, by omega, by go_num, by rw [← HC.out, HD.out]; rfl, rfl⟩
          case measure => simp [intOf]; omega
      · go_wp2_with fail
        go_ret
        refine ⟨ret_bool ?_, (Below.refl _ w).drewN _⟩
        rw [← HC.out, List.drop_eq_nil_of_le (by omega), List.drop_eq_nil_of_le (by have := HL.out; omega)]; rfl
  · have hne : ((l.length : Int) != (t.length : Int)) = true := by simp only [bne_iff_ne]; omega
    go_enter Tryd.func50, Tryd.ntmps50
    go_wp2_with fail
    go_ret
    exact ⟨ret_bool (by rw [samPs_len hle]), Below.refl _ w⟩
set_option maxRecDepth 100000 in
set_option maxHeartbeats 4000000 in
theorem equalX_any (l t : List Is) (a a' : Option Addr) (c c' : Nat) (w : World) (hin : Iss w a l) (hin' : Iss w a' t) :
    Calls Tryd.prog 51 #[.slice a l.length c, .slice a' t.length c'] w fun e w' => e = .returned (.bool (samXs l t)) ∧ Below w.heap.size w w' := by
  have HA := Hid.mk' hin
  have HB := Hid.mk' hin'
  have hc := hin.1
  have hc' := hin'.1
  clear hin hin'
  by_cases hle : l.length = t.length
  · have HL : Hid (l.length = t.length) := hle
    rw [← hle]
    clear hle hc'
    go_enter Tryd.func51, Tryd.ntmps51
    go_wp2_with fail
    go_loopw [13] (fun t13 wr => ∃ (j nq : Nat), j ≤ l.length ∧ t13 = .int .i64 j ∧ samXs (l.drop j) (t.drop j) = samXs l t ∧ wr = w.drewN nq) (fun t13 _ => l.length - (intOf t13).toNat)
    case atStart => exact ⟨0, 0, Nat.zero_le _, rfl, rfl, rfl⟩
    case round =>
      obtain ⟨j, nq, hj, rfl, hcnt, rfl⟩ := hrel
      have HC : Hid (samXs (l.drop j) (t.drop j) = samXs l t) := hcnt
      clear hcnt
      by_cases hlt : j < l.length
      · have hlt' : j < t.length := by have := HL.out; omega
        obtain ⟨b, o, rfl, c0, c1, c2, c3, c4⟩ := iss_at HA.out hlt
        obtain ⟨b', o', rfl, d0, d1, d2, d3, d4⟩ := iss_at HB.out hlt'
        have hli : (j : Int) < (l.length : Int) := by omega
        have HD : Hid (samXs (l.drop j) (t.drop j) = (samX l[j] t[j] && samXs (l.drop (j + 1)) (t.drop (j + 1)))) := samXs_drop hlt hlt'
        generalize l[j] = x at *
        generalize t[j] = y at *
        clear hlt'
        go_wp2_with fail
        have hq := fun w => equalIn_is x y w
        have hg : ∀ (w : World) (op : BinOp) (a b : Operand) (xs ys : Array Value), (eqGuard op 27 a b (.agg xs) (.agg ys)).run Tryd.prog w = .ok () w := fun w op a b xs ys => run_eqGuard_agg w op 27 a b xs ys (by kernel_rfl)
        go_quiet (fail)
        clear hq hg
        cases ev : samX x y
        · rw [ev] at HD
          go_wp2_with fail
          go_ret
          exact ⟨ret_bool (by rw [← HC.out, HD.out]; rfl), ((Below.refl _ w).drewN _).drewN _⟩
        · rw [ev] at HD
          go_wp2_with fail
          go_roundw
          case rel => exact ⟨j + 1, _, by omega, by go_num, by rw [← HC.out, HD.out]; rfl, rfl⟩
          case measure => simp [intOf]; omega
      · go_wp2_with fail
        go_ret
        refine ⟨ret_bool ?_, (Below.refl _ w).drewN _⟩
        rw [← HC.out, List.drop_eq_nil_of_le (by omega), List.drop_eq_nil_of_le (by have := HL.out; omega)]; rfl
  · have hne : ((l.length : Int) != (t.length : Int)) = true := by simp only [bne_iff_ne]; omega
    go_enter Tryd.func51, Tryd.ntmps51
    go_wp2_with fail
    go_ret
    exact ⟨ret_bool (by rw [samXs_len hle]), Below.refl _ w⟩
end Go.Proofs.YtlkoigdnakmdlaaDoor
