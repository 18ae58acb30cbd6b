/- slices.Equal at numbers, spans and instructions; sameFunc; slices.EqualFunc; code.Same. -/
import Derived.Test.YtlnjhnbiljkbmaaDoorCa
namespace Go.Proofs.YtlnjhnbiljkbmaaDoor
open Go.RowKit Go.Sort

theorem equalIn_sp (x y : Sp) (w : World) : (Op.equalIn 10000 65 (.agg #[.int .i64 x.1, .int .i64 x.2]) (.agg #[.int .i64 y.1, .int .i64 y.2])).run Tryd.prog w = .ok (samP x y) w := by
  have u2 := Tryd.underlying2
  have a2 := Tryd.isAgg2
  have z2 := Tryd.sizeOf2
  have hS : Tryd.prog.underlying 65 = some (.struct (Tryd.prog.fieldsOf 65)) := by kernel_rfl
  have hp : Tryd.prog.stoodInHeld 65 = false := by kernel_rfl
  rw [show (10000 : Nat) = 9999 + 1 from rfl, run_equalIn_agg w 9999 65 _ _ hS hp]
  simp only [Program.fieldsOf, Tryd.underlying65]
  go_simp
  unfold samP
  by_cases h1 : x.1 = y.1 <;> by_cases h2 : x.2 = y.2 <;> simp [h1, h2]
theorem equalIn_is (x y : Is) (w : World) : (Op.equalIn 10000 54 (.agg #[.int .i64 x.op, .int .i64 x.a, .int .i64 x.b, .int .i64 x.c, .int .i64 x.n]) (.agg #[.int .i64 y.op, .int .i64 y.a, .int .i64 y.b, .int .i64 y.c, .int .i64 y.n])).run Tryd.prog w = .ok (samX x y) w := by
  have u2 := Tryd.underlying2
  have a2 := Tryd.isAgg2
  have z2 := Tryd.sizeOf2
  have u3 := Tryd.underlying3
  have a3 := Tryd.isAgg3
  have z3 := Tryd.sizeOf3
  have hS : Tryd.prog.underlying 54 = some (.struct (Tryd.prog.fieldsOf 54)) := by kernel_rfl
  have hp : Tryd.prog.stoodInHeld 54 = false := by kernel_rfl
  rw [show (10000 : Nat) = 9999 + 1 from rfl, run_equalIn_agg w 9999 54 _ _ hS hp]
  simp only [Program.fieldsOf, Tryd.underlying54]
  go_simp
  unfold samX
  by_cases h1 : x.op = y.op <;> by_cases h2 : x.a = y.a <;> by_cases h3 : x.b = y.b <;> by_cases h4 : x.c = y.c <;> by_cases h5 : x.n = y.n <;> simp [h1, h2, h3, h4, h5]

end Go.Proofs.YtlnjhnbiljkbmaaDoor

/- sameFunc; slices.EqualFunc; code.Same. -/
namespace Go.Proofs.YtlnjhnbiljkbmaaDoor
open Go.RowKit Go.Sort

theorem samF_eq (x y : Fn) : samF x y = (x.name.toList == y.name.toList && (x.regs == y.regs && (x.words == y.words && (samPs x.params y.params && samXs x.code y.code)))) := rfl
end Go.Proofs.YtlnjhnbiljkbmaaDoor
