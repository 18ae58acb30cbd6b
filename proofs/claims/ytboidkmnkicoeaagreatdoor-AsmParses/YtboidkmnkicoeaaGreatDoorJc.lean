/- Where a name stands. -/
import Derived.Test.YtboidkmnkicoeaaGreatDoorCa
namespace Go.Proofs.YtboidkmnkicoeaaGreatDoor
open Go.RowKit Go.Sort

set_option maxRecDepth 100000 in
set_option maxHeartbeats 2000000 in
theorem find_any (m : Mo) (s : ByteArray) (w : World) (hm : Fns w m.fa m.funcs) : Calls Tryz.prog 63 #[m.val, .string s] w fun e w' => e = .returned (.int .i64 (fndN m.funcs s 0)) ∧ Below w.heap.size w w' := by
  have hb0 := Below.one (Below.refl _ w) (.cells #[.slice m.ta m.ths.length m.tc, .slice m.fa m.funcs.length m.fc] 25)
  have hc := hm.1
  have HM := Hid.mk' hm
  clear hm
  unfold Mo.val
  obtain ⟨_, _, _, a, c, l⟩ := m
  simp only at HM hc hb0 ⊢
  go_enter Tryz.func63, Tryz.ntmps63
  go_wp2_with fail
  go_loopw [10] (fun t10 wr => ∃ (j : Nat), j ≤ l.length ∧ t10 = .int .i64 j ∧ fndN (l.drop j) s j = fndN l s 0 ∧ Below w.heap.size w wr) (fun t10 _ => l.length - (intOf t10).toNat)
  case atStart => exact ⟨0, Nat.zero_le _, rfl, rfl, hb0⟩
  case round =>
    obtain ⟨j, hj, rfl, hcnt, hb⟩ := hrel
    have HC : Hid (fndN (l.drop j) s j = fndN l s 0) := hcnt
    clear hcnt
    by_cases hlt : j < l.length
    · obtain ⟨b, o, rfl, c0, c1, c2, c3, c4⟩ := fns_at (HM.out.stay hb) hlt
      have hli : (j : Int) < (l.length : Int) := by omega
      have HD := Hid.mk' (fndN_drop (s := s) hlt)
      generalize l[j] = f at *
      cases ev : (f.name.toList == s.toList)
      · go_wp2_with fail
        go_roundw
        case rel => exact ⟨j + 1, by omega, by go_num, by rw [← HC.out, HD.out, ev]; rfl, Below.one hb _⟩
        case measure => simp [intOf]; omega
      · go_wp2_with fail
        go_ret
        exact ⟨ret_int (by rw [← HC.out, HD.out, ev]; rfl), Below.one hb _⟩
    · go_wp2_with fail
      go_ret
      exact ⟨ret_int (by rw [← HC.out, List.drop_eq_nil_of_le (by omega)]; rfl), hb⟩
end Go.Proofs.YtboidkmnkicoeaaGreatDoor

/- slices.Equal at numbers, spans and instructions; sameFunc; slices.EqualFunc; code.Same. -/
namespace Go.Proofs.YtboidkmnkicoeaaGreatDoor
open Go.RowKit Go.Sort

theorem equalIn_sp (x y : Sp) (w : World) : (Op.equalIn 10000 38 (.agg #[.int .i64 x.1, .int .i64 x.2]) (.agg #[.int .i64 y.1, .int .i64 y.2])).run Tryz.prog w = .ok (samP x y) w := by
  have u2 := Tryz.underlying2
  have a2 := Tryz.isAgg2
  have z2 := Tryz.sizeOf2
  have hS : Tryz.prog.underlying 38 = some (.struct (Tryz.prog.fieldsOf 38)) := by kernel_rfl
  have hp : Tryz.prog.stoodInHeld 38 = false := by kernel_rfl
  rw [show (10000 : Nat) = 9999 + 1 from rfl, run_equalIn_agg w 9999 38 _ _ hS hp]
  simp only [Program.fieldsOf, Tryz.underlying38]
  go_simp
  unfold samP
  by_cases h1 : x.1 = y.1 <;> by_cases h2 : x.2 = y.2 <;> simp [h1, h2]
theorem equalIn_is (x y : Is) (w : World) : (Op.equalIn 10000 36 (.agg #[.int .i64 x.op, .int .i64 x.a, .int .i64 x.b, .int .i64 x.c, .int .i64 x.n]) (.agg #[.int .i64 y.op, .int .i64 y.a, .int .i64 y.b, .int .i64 y.c, .int .i64 y.n])).run Tryz.prog w = .ok (samX x y) w := by
  have u2 := Tryz.underlying2
  have a2 := Tryz.isAgg2
  have z2 := Tryz.sizeOf2
  have u3 := Tryz.underlying3
  have a3 := Tryz.isAgg3
  have z3 := Tryz.sizeOf3
  have hS : Tryz.prog.underlying 36 = some (.struct (Tryz.prog.fieldsOf 36)) := by kernel_rfl
  have hp : Tryz.prog.stoodInHeld 36 = false := by kernel_rfl
  rw [show (10000 : Nat) = 9999 + 1 from rfl, run_equalIn_agg w 9999 36 _ _ hS hp]
  simp only [Program.fieldsOf, Tryz.underlying36]
  go_simp
  unfold samX
  by_cases h1 : x.op = y.op <;> by_cases h2 : x.a = y.a <;> by_cases h3 : x.b = y.b <;> by_cases h4 : x.c = y.c <;> by_cases h5 : x.n = y.n <;> simp [h1, h2, h3, h4, h5]

end Go.Proofs.YtboidkmnkicoeaaGreatDoor

/- sameFunc; slices.EqualFunc; code.Same. -/
namespace Go.Proofs.YtboidkmnkicoeaaGreatDoor
open Go.RowKit Go.Sort

theorem samF_eq (x y : Fn) : samF x y = (x.name.toList == y.name.toList && (x.regs == y.regs && (x.words == y.words && (samPs x.params y.params && samXs x.code y.code)))) := rfl
end Go.Proofs.YtboidkmnkicoeaaGreatDoor
