/- Where a name stands. -/
import Derived.Test.YtfamomjgjamnoaaDoorCa
namespace Go.Proofs.YtfamomjgjamnoaaDoor
open Go.RowKit Go.Sort

set_option maxRecDepth 100000 in
set_option maxHeartbeats 2000000 in
theorem find_any (m : Mo) (s : ByteArray) (w : World) (hm : Fns w m.fa m.funcs) : Calls Tryd.prog 43 #[m.val, .string s] w fun e w' => e = .returned (.int .i64 (fndN m.funcs s 0)) ∧ Below w.heap.size w w' := by
  have hb0 := Below.one (Below.refl _ w) (.cells #[.slice m.ta m.ths.length m.tc, .slice m.fa m.funcs.length m.fc] 25)
  have hc := hm.1
  have HM := Hid.mk' hm
  clear hm
  unfold Mo.val
  obtain ⟨_, _, _, a, c, l⟩ := m
  simp only at HM hc hb0 ⊢
  go_enter Tryd.func43, Tryd.ntmps43
  go_wp2_with fail
  go_loopw [10] (fun t10 wr => ∃ (j : Nat), j ≤ l.length ∧ t10 = .int .i64 j ∧ fndN (l.drop j) s j = fndN l s 0 ∧ Below w.heap.size w wr) (fun t10 _ => l.length - (intOf t10).toNat)
  case atStart => exact ⟨0, Nat.zero_le _, rfl, rfl, hb0⟩
  case round =>
    obtain ⟨j, hj, rfl, hcnt, hb⟩ := hrel
    have HC : Hid (fndN (l.drop j) s j = fndN l s 0) := hcnt
    clear hcnt
    by_cases hlt : j < l.length
    · obtain ⟨b, o, rfl, c0, c1, c2, c3, c4⟩ := fns_at (HM.out.stay hb) hlt
      have hli : (j : Int) < (l.length : Int) := by omega
      have HD := Hid.mk' (fndN_drop (s := s) hlt)
      generalize l[j] = f at *
      cases ev : (f.name.toList == s.toList)
      · go_wp2_with fail
        go_roundw
        case rel => exact ⟨j + 1, by omega, by go_num, by rw [← HC.out, HD.out, ev]; rfl, Below.one hb _⟩
        case measure => simp [intOf]; omega
      · go_wp2_with fail
        go_ret
        exact ⟨ret_int (by rw [← HC.out, HD.out, ev]; rfl), Below.one hb _⟩
    · go_wp2_with fail
      go_ret
      exact ⟨ret_int (by rw [← HC.out, List.drop_eq_nil_of_le (by omega)]; rfl), hb⟩
end Go.Proofs.YtfamomjgjamnoaaDoor

/- slices.Equal at numbers, spans and instructions; sameFunc; slices.EqualFunc; code.Same. -/
namespace Go.Proofs.YtfamomjgjamnoaaDoor
open Go.RowKit Go.Sort

theorem equalIn_sp (x y : Sp) (w : World) : (Op.equalIn 10000 56 (.agg #[.int .i64 x.1, .int .i64 x.2]) (.agg #[.int .i64 y.1, .int .i64 y.2])).run Tryd.prog w = .ok (samP x y) w := by
  have u2 := Tryd.underlying2
  have a2 := Tryd.isAgg2
  have z2 := Tryd.sizeOf2
  have hS : Tryd.prog.underlying 56 = some (.struct (Tryd.prog.fieldsOf 56)) := by kernel_rfl
  have hp : Tryd.prog.stoodInHeld 56 = false := by kernel_rfl
  rw [show (10000 : Nat) = 9999 + 1 from rfl, run_equalIn_agg w 9999 56 _ _ hS hp]
  simp only [Program.fieldsOf, Tryd.underlying56]
  go_simp
  unfold samP
  by_cases h1 : x.1 = y.1 <;> by_cases h2 : x.2 = y.2 <;> simp [h1, h2]
theorem equalIn_is (x y : Is) (w : World) : (Op.equalIn 10000 58 (.agg #[.int .i64 x.op, .int .i64 x.a, .int .i64 x.b, .int .i64 x.c, .int .i64 x.n]) (.agg #[.int .i64 y.op, .int .i64 y.a, .int .i64 y.b, .int .i64 y.c, .int .i64 y.n])).run Tryd.prog w = .ok (samX x y) w := by
  have u2 := Tryd.underlying2
  have a2 := Tryd.isAgg2
  have z2 := Tryd.sizeOf2
  have u3 := Tryd.underlying3
  have a3 := Tryd.isAgg3
  have z3 := Tryd.sizeOf3
  have hS : Tryd.prog.underlying 58 = some (.struct (Tryd.prog.fieldsOf 58)) := by kernel_rfl
  have hp : Tryd.prog.stoodInHeld 58 = false := by kernel_rfl
  rw [show (10000 : Nat) = 9999 + 1 from rfl, run_equalIn_agg w 9999 58 _ _ hS hp]
  simp only [Program.fieldsOf, Tryd.underlying58]
  go_simp
  unfold samX
  by_cases h1 : x.op = y.op <;> by_cases h2 : x.a = y.a <;> by_cases h3 : x.b = y.b <;> by_cases h4 : x.c = y.c <;> by_cases h5 : x.n = y.n <;> simp [h1, h2, h3, h4, h5]

end Go.Proofs.YtfamomjgjamnoaaDoor

/- sameFunc; slices.EqualFunc; code.Same. -/
namespace Go.Proofs.YtfamomjgjamnoaaDoor
open Go.RowKit Go.Sort

theorem samF_eq (x y : Fn) : samF x y = (x.name.toList == y.name.toList && (x.regs == y.regs && (x.words == y.words && (samPs x.params y.params && samXs x.code y.code)))) := rfl
end Go.Proofs.YtfamomjgjamnoaaDoor
