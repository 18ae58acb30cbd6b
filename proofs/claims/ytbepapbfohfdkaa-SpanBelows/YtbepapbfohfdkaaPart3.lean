/- SpanBelows: Below against the document's answer. -/
import Derived.Test.YtbepapbfohfdkaaPart2
namespace Go.Proofs.Ytbepapbfohfdkaa
open Go.RowKit Go.Lib Go.Sort

set_option maxHeartbeats 2000000 in
theorem spanBelows_any (a b : Sp) (ha : a.Ok) (hb' : b.Ok) (w : World) : Calls Try.prog 5 #[sv a, sv b] w fun e w' => e = .returned (.bool true) ∧ Below w.heap.size w w' := by
  have HB := Hid.mk' fun w => below_any a b ha hb' w
  have HB' := Hid.mk' fun w => rbelow_any a b ha hb' w
  have HF := Hid.mk' fixed_any
  obtain ⟨al, ah⟩ := a
  obtain ⟨bl, bh⟩ := b
  generalize belB (al, ah) (bl, bh) = k at *
  generalize belA (al, ah) (bl, bh) = c at *
  generalize belC (al, ah) (bl, bh) = d at *
  obtain ⟨c1, c2⟩ := c
  obtain ⟨d1, d2⟩ := d
  clear ha hb'
  have hb := fun (o1 o2 : Obj) => (Below.one (Below.one (Below.refl _ w) o1) o2 : Below w.heap.size w _)
  have hg := eqGuard_s
  have q1 := fun w => equalIn_T (rfl : (c1, c2) = (c1, c2)) w
  have q2 := fun w => equalIn_T (rfl : (d1, d2) = (d1, d2)) w
  go_enter Try.func5, Try.ntmps5
  go_upto_region 2 with (go_at_call 22; refine (HB.out _).mono ?_; rintro e w1 ⟨rfl, hb1⟩)
  have A0 := (At.stay (At.more (At.new w (al, ah)) _) hb1).more (.cells #[.int .i64 c1, .int .i64 c2] 23)
  replace A0 := A0.more (.cells #[.int .i64 d1, .int .i64 d2] 23)
  have A1 := (At.stay (At.new1 w (bl, bh) _) hb1).more (.cells #[.int .i64 c1, .int .i64 c2] 23)
  replace A1 := A1.more (.cells #[.int .i64 d1, .int .i64 d2] 23)
  have A2 := (At.new w1 (c1, c2)).more (.cells #[.int .i64 d1, .int .i64 d2] 23)
  have A3 := At.new1 w1 (d1, d2) (.cells #[.int .i64 c1, .int .i64 c2] 23)
  have B := Below.one (Below.one (Below.on (hb _ _) hb1) (.cells #[.int .i64 c1, .int .i64 c2] 23)) (.cells #[.int .i64 d1, .int .i64 d2] 23)
  simp only at A2 A3
  clear hb hb1 HB
  generalize (w1.alloc (.cells #[.int .i64 c1, .int .i64 c2] 23)).alloc (.cells #[.int .i64 d1, .int .i64 d2] 23) = W1 at *
  generalize w1.heap.size = g at *
  have x0 := A0.c0; have x1 := A0.c1; have y0 := A1.c0; have y1 := A1.c1
  go_upto_region 3 with (go_at_call 23; refine (HB'.out _).mono ?_; rintro e w2 ⟨rfl, hb2⟩)
  replace A2 := (A2.on (.cells #[.int .i64 c1, .int .i64 c2] 23) hb2).more (.cells #[.int .i64 d1, .int .i64 d2] 23)
  replace A3 := (A3.on (.cells #[.int .i64 c1, .int .i64 c2] 23) hb2).more (.cells #[.int .i64 d1, .int .i64 d2] 23)
  have A4 := (At.new w2 (c1, c2)).more (.cells #[.int .i64 d1, .int .i64 d2] 23)
  have A5 := At.new1 w2 (d1, d2) (.cells #[.int .i64 c1, .int .i64 c2] 23)
  replace B := Below.one (Below.one (Below.on B hb2) (.cells #[.int .i64 c1, .int .i64 c2] 23)) (.cells #[.int .i64 d1, .int .i64 d2] 23)
  simp only at A4 A5
  clear hb2 HB' x0 x1 y0 y1 A0 A1
  generalize (w2.alloc (.cells #[.int .i64 c1, .int .i64 c2] 23)).alloc (.cells #[.int .i64 d1, .int .i64 d2] 23) = W2 at *
  generalize w2.heap.size = g2 at *
  go_wp2_with (go_at_call 11; refine (HF.out _).mono ?_; rintro e w3 ⟨rfl, hb3⟩; have D2 := A2.stay hb3; have D3 := A3.stay hb3; have D4 := A4.stay hb3; have D5 := A5.stay hb3; have u0 := D2.c0; have u1 := D2.c1; have v0 := D3.c0; have v1 := D3.c1; have s0 := D4.c0; have s1 := D4.c1; have t0 := D5.c0; have t1 := D5.c1)
  go_ret
  exact ⟨rfl, Below.on B hb3⟩
end Go.Proofs.Ytbepapbfohfdkaa
