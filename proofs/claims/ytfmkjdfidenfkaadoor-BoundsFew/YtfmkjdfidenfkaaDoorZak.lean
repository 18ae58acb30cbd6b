/- What Do tells of sums, differences, products, and of what is less. What Do tells of what is equal, and of no. Spans: where remainders are; what is left below. What Do tells of quotients and rests. What Do tells. Spans: what is left of two where the one's number is below the other's. -/
import Derived.Test.YtfmkjdfidenfkaaDoorZai
import Derived.Test.YtfmkjdfidenfkaaDoorZaj
import Derived.BigRegion
namespace Go.Proofs.YtfmkjdfidenfkaaDoor.S8
open Go.RowKit Go.Lib Go.Sort

set_option maxHeartbeats 1000000 in
theorem do_add (al ah bl bh : Int) (h1 : al ≤ ah) (h2 : bl ≤ bh) (ha : Sp.Ok (al, ah)) (hb' : Sp.Ok (bl, bh)) (w : World) : Calls Tryd.prog 82 #[.int .i64 3, sv (al, ah), sv (bl, bh)] w fun e w' => e = .returned (.tuple #[sv (sumS (al, ah) (bl, bh)), .bool true]) ∧ Below w.heap.size w w' := by
  have HEa : Hid (∀ w, Calls Tryd.prog 91 #[.agg #[.int .i64 al, .int .i64 ah]] w fun e w' => e = .returned (.bool false) ∧ Below w.heap.size w w') := emF h1
  have HEb : Hid (∀ w, Calls Tryd.prog 91 #[.agg #[.int .i64 bl, .int .i64 bh]] w fun e w' => e = .returned (.bool false) ∧ Below w.heap.size w w') := emF h2
  have hb := fun (o1 o2 o3 : Obj) => (Below.one (Below.one (Below.one (Below.refl _ w) o1) o2) o3 : Below w.heap.size w _)
  have HC := Hid.mk' fun w => sums_any (al, ah) (bl, bh) ha hb' w
  generalize sumS (al, ah) (bl, bh) = R at *
  obtain ⟨R1, R2⟩ := R
  clear h1 h2
  go_enter Tryd.func82, Tryd.ntmps82
  go_wp2_with (first | (go_at_call_of 91 (Value.agg #[Value.int .i64 al, Value.int .i64 ah]); refine (HEa.out _).mono ?_; rintro e w1 ⟨rfl, hb1⟩; have A0 := At.stay (At.more (At.more (At.new w (al, ah)) _) _) hb1; have A1 := At.stay (At.more (At.new1 w (bl, bh) _) _) hb1; have A2 := At.stay (At.new2 w (0, 0) _ _) hb1; have x0 := A0.c0; have x1 := A0.c1; have y0 := A1.c0; have y1 := A1.c1; have z0 := A2.c0; have z1 := A2.c1; have z2 := A2.f0; have z3 := A2.f1) | (go_at_call_of 91 (Value.agg #[Value.int .i64 bl, Value.int .i64 bh]); refine (HEb.out _).mono ?_; rintro e w2 ⟨rfl, hb2⟩; have D0 := A0.stay hb2; have D1 := A1.stay hb2; have D2 := A2.stay hb2; have u0 := D0.c0; have u1 := D0.c1; have v0 := D1.c0; have v1 := D1.c1; have t0 := D2.c0; have t1 := D2.c1; have t2 := D2.f0; have t3 := D2.f1) | (go_at_call 96; refine (HC.out _).mono ?_; rintro e w3 ⟨rfl, hb3⟩; have E2 := D2.stay hb3; have s0 := E2.c0; have s1 := E2.c1; have s2 := E2.f0; have s3 := E2.f1))
  exact bodyPost_ret (v := .tuple #[sv (R1, R2), .bool true]) (by simp [results, Tryd.results82, go_sem, *]) rfl ⟨rfl, Below.put (Below.on (Below.on (Below.on (hb _ _ _) hb1) hb2) hb3) (by omega) _ _⟩
set_option maxHeartbeats 1000000 in
theorem do_sub (al ah bl bh : Int) (h1 : al ≤ ah) (h2 : bl ≤ bh) (ha : Sp.Ok (al, ah)) (hb' : Sp.Ok (bl, bh)) (w : World) : Calls Tryd.prog 82 #[.int .i64 4, sv (al, ah), sv (bl, bh)] w fun e w' => e = .returned (.tuple #[sv (difS (al, ah) (bl, bh)), .bool true]) ∧ Below w.heap.size w w' := by
  have HEa : Hid (∀ w, Calls Tryd.prog 91 #[.agg #[.int .i64 al, .int .i64 ah]] w fun e w' => e = .returned (.bool false) ∧ Below w.heap.size w w') := emF h1
  have HEb : Hid (∀ w, Calls Tryd.prog 91 #[.agg #[.int .i64 bl, .int .i64 bh]] w fun e w' => e = .returned (.bool false) ∧ Below w.heap.size w w') := emF h2
  have hb := fun (o1 o2 o3 : Obj) => (Below.one (Below.one (Below.one (Below.refl _ w) o1) o2) o3 : Below w.heap.size w _)
  have HC := Hid.mk' fun w => differences_any (al, ah) (bl, bh) ha hb' w
  generalize difS (al, ah) (bl, bh) = R at *
  obtain ⟨R1, R2⟩ := R
  clear h1 h2
  go_enter Tryd.func82, Tryd.ntmps82
  go_wp2_with (first | (go_at_call_of 91 (Value.agg #[Value.int .i64 al, Value.int .i64 ah]); refine (HEa.out _).mono ?_; rintro e w1 ⟨rfl, hb1⟩; have A0 := At.stay (At.more (At.more (At.new w (al, ah)) _) _) hb1; have A1 := At.stay (At.more (At.new1 w (bl, bh) _) _) hb1; have A2 := At.stay (At.new2 w (0, 0) _ _) hb1; have x0 := A0.c0; have x1 := A0.c1; have y0 := A1.c0; have y1 := A1.c1; have z0 := A2.c0; have z1 := A2.c1; have z2 := A2.f0; have z3 := A2.f1) | (go_at_call_of 91 (Value.agg #[Value.int .i64 bl, Value.int .i64 bh]); refine (HEb.out _).mono ?_; rintro e w2 ⟨rfl, hb2⟩; have D0 := A0.stay hb2; have D1 := A1.stay hb2; have D2 := A2.stay hb2; have u0 := D0.c0; have u1 := D0.c1; have v0 := D1.c0; have v1 := D1.c1; have t0 := D2.c0; have t1 := D2.c1; have t2 := D2.f0; have t3 := D2.f1) | (go_at_call 97; refine (HC.out _).mono ?_; rintro e w3 ⟨rfl, hb3⟩; have E2 := D2.stay hb3; have s0 := E2.c0; have s1 := E2.c1; have s2 := E2.f0; have s3 := E2.f1))
  exact bodyPost_ret (v := .tuple #[sv (R1, R2), .bool true]) (by simp [results, Tryd.results82, go_sem, *]) rfl ⟨rfl, Below.put (Below.on (Below.on (Below.on (hb _ _ _) hb1) hb2) hb3) (by omega) _ _⟩
set_option maxHeartbeats 1000000 in
theorem do_mul (al ah bl bh : Int) (h1 : al ≤ ah) (h2 : bl ≤ bh) (ha : Sp.Ok (al, ah)) (hb' : Sp.Ok (bl, bh)) (w : World) : Calls Tryd.prog 82 #[.int .i64 5, sv (al, ah), sv (bl, bh)] w fun e w' => e = .returned (.tuple #[sv (proS (al, ah) (bl, bh)), .bool true]) ∧ Below w.heap.size w w' := by
  have HEa : Hid (∀ w, Calls Tryd.prog 91 #[.agg #[.int .i64 al, .int .i64 ah]] w fun e w' => e = .returned (.bool false) ∧ Below w.heap.size w w') := emF h1
  have HEb : Hid (∀ w, Calls Tryd.prog 91 #[.agg #[.int .i64 bl, .int .i64 bh]] w fun e w' => e = .returned (.bool false) ∧ Below w.heap.size w w') := emF h2
  have hb := fun (o1 o2 o3 : Obj) => (Below.one (Below.one (Below.one (Below.refl _ w) o1) o2) o3 : Below w.heap.size w _)
  have HC := Hid.mk' fun w => products_any (al, ah) (bl, bh) ha hb' w
  generalize proS (al, ah) (bl, bh) = R at *
  obtain ⟨R1, R2⟩ := R
  clear h1 h2
  go_enter Tryd.func82, Tryd.ntmps82
  go_wp2_with (first | (go_at_call_of 91 (Value.agg #[Value.int .i64 al, Value.int .i64 ah]); refine (HEa.out _).mono ?_; rintro e w1 ⟨rfl, hb1⟩; have A0 := At.stay (At.more (At.more (At.new w (al, ah)) _) _) hb1; have A1 := At.stay (At.more (At.new1 w (bl, bh) _) _) hb1; have A2 := At.stay (At.new2 w (0, 0) _ _) hb1; have x0 := A0.c0; have x1 := A0.c1; have y0 := A1.c0; have y1 := A1.c1; have z0 := A2.c0; have z1 := A2.c1; have z2 := A2.f0; have z3 := A2.f1) | (go_at_call_of 91 (Value.agg #[Value.int .i64 bl, Value.int .i64 bh]); refine (HEb.out _).mono ?_; rintro e w2 ⟨rfl, hb2⟩; have D0 := A0.stay hb2; have D1 := A1.stay hb2; have D2 := A2.stay hb2; have u0 := D0.c0; have u1 := D0.c1; have v0 := D1.c0; have v1 := D1.c1; have t0 := D2.c0; have t1 := D2.c1; have t2 := D2.f0; have t3 := D2.f1) | (go_at_call 98; refine (HC.out _).mono ?_; rintro e w3 ⟨rfl, hb3⟩; have E2 := D2.stay hb3; have s0 := E2.c0; have s1 := E2.c1; have s2 := E2.f0; have s3 := E2.f1))
  exact bodyPost_ret (v := .tuple #[sv (R1, R2), .bool true]) (by simp [results, Tryd.results82, go_sem, *]) rfl ⟨rfl, Below.put (Below.on (Below.on (Below.on (hb _ _ _) hb1) hb2) hb3) (by omega) _ _⟩
set_option maxHeartbeats 1000000 in
theorem do_less (al ah bl bh : Int) (h1 : al ≤ ah) (h2 : bl ≤ bh) (w : World) : Calls Tryd.prog 82 #[.int .i64 8, sv (al, ah), sv (bl, bh)] w fun e w' => e = .returned (.tuple #[sv (tru (decide (ah < bl)) (decide (bh ≤ al))), .bool true]) ∧ Below w.heap.size w w' := by
  have HEa : Hid (∀ w, Calls Tryd.prog 91 #[.agg #[.int .i64 al, .int .i64 ah]] w fun e w' => e = .returned (.bool false) ∧ Below w.heap.size w w') := emF h1
  have HEb : Hid (∀ w, Calls Tryd.prog 91 #[.agg #[.int .i64 bl, .int .i64 bh]] w fun e w' => e = .returned (.bool false) ∧ Below w.heap.size w w') := emF h2
  have hb := fun (o1 o2 o3 : Obj) => (Below.one (Below.one (Below.one (Below.refl _ w) o1) o2) o3 : Below w.heap.size w _)
  have HC := Hid.mk' truth_any
  clear h1 h2
  cases hp : decide (ah < bl) <;> cases hq : decide (bh ≤ al)
  all_goals
    go_enter Tryd.func82, Tryd.ntmps82
    go_wp2_with (first | (go_at_call_of 91 (Value.agg #[Value.int .i64 al, Value.int .i64 ah]); refine (HEa.out _).mono ?_; rintro e w1 ⟨rfl, hb1⟩; have A0 := At.stay (At.more (At.more (At.new w (al, ah)) _) _) hb1; have A1 := At.stay (At.more (At.new1 w (bl, bh) _) _) hb1; have A2 := At.stay (At.new2 w (0, 0) _ _) hb1; have x0 := A0.c0; have x1 := A0.c1; have y0 := A1.c0; have y1 := A1.c1; have z0 := A2.c0; have z1 := A2.c1; have z2 := A2.f0; have z3 := A2.f1) | (go_at_call_of 91 (Value.agg #[Value.int .i64 bl, Value.int .i64 bh]); refine (HEb.out _).mono ?_; rintro e w2 ⟨rfl, hb2⟩; have D0 := A0.stay hb2; have D1 := A1.stay hb2; have D2 := A2.stay hb2; have u0 := D0.c0; have u1 := D0.c1; have v0 := D1.c0; have v1 := D1.c1; have t0 := D2.c0; have t1 := D2.c1; have t2 := D2.f0; have t3 := D2.f1) | (go_at_call 101; refine (HC.out _ _ _).mono ?_; rintro e w3 ⟨rfl, hb3⟩; have E2 := D2.stay hb3; have s0 := E2.c0; have s1 := E2.c1; have s2 := E2.f0; have s3 := E2.f1))
    exact bodyPost_ret (v := .tuple #[sv (tru _ _), .bool true]) (by simp [results, Tryd.results82, go_sem, *]) rfl ⟨rfl, Below.put (Below.on (Below.on (Below.on (hb _ _ _) hb1) hb2) hb3) (by omega) _ _⟩
end Go.Proofs.YtfmkjdfidenfkaaDoor.S8
namespace Go.Proofs.YtfmkjdfidenfkaaDoor.S8
open Go.RowKit Go.Lib Go.Sort

set_option maxHeartbeats 1000000 in
theorem do_equal11 (al ah bl bh : Int) (h1 : al ≤ ah) (h2 : bl ≤ bh) (h3 : al = ah) (h4 : (al, ah) = (bl, bh)) (w : World) : Calls Tryd.prog 82 #[.int .i64 9, sv (al, ah), sv (bl, bh)] w fun e w' => e = .returned (.tuple #[sv (tru true (!meetB (al, ah) (bl, bh))), .bool true]) ∧ Below w.heap.size w w' := by
  have HEa : Hid (∀ w, Calls Tryd.prog 91 #[.agg #[.int .i64 al, .int .i64 ah]] w fun e w' => e = .returned (.bool false) ∧ Below w.heap.size w w') := emF h1
  have HEb : Hid (∀ w, Calls Tryd.prog 91 #[.agg #[.int .i64 bl, .int .i64 bh]] w fun e w' => e = .returned (.bool false) ∧ Below w.heap.size w w') := emF h2
  have hb := fun (o1 o2 o3 : Obj) => (Below.one (Below.one (Below.one (Below.refl _ w) o1) o2) o3 : Below w.heap.size w _)
  have HM := Hid.mk' fun w => meet_any (al, ah) (bl, bh) w
  have HT := Hid.mk' truth_any
  have HS : Hid (∀ w, Calls Tryd.prog 102 #[.agg #[.int .i64 al, .int .i64 ah]] w fun e w' => e = .returned (.bool true) ∧ Below w.heap.size w w') := fun w => by have := sglV al ah w; rwa [show (al == ah) = true by simp [h3]] at this
  have hg := eqGuard_s
  have hq : ∀ w, (Op.equalIn 10000 54 (.agg #[.int .i64 al, .int .i64 ah]) (.agg #[.int .i64 bl, .int .i64 bh])).run Tryd.prog w = .ok true w := fun w => equalIn_T h4 w
  generalize meetB (al, ah) (bl, bh) = mB at *
  generalize meetS (al, ah) (bl, bh) = mS at *
  obtain ⟨m1, m2⟩ := mS
  clear h1 h2 h3 h4
  go_enter Tryd.func82, Tryd.ntmps82
  go_upto_region 22 with (first | (go_at_call_of 91 (Value.agg #[Value.int .i64 al, Value.int .i64 ah]); refine (HEa.out _).mono ?_; rintro e w1 ⟨rfl, hb1⟩; have A0 := At.stay (At.more (At.more (At.new w (al, ah)) _) _) hb1; have A1 := At.stay (At.more (At.new1 w (bl, bh) _) _) hb1; have A2 := At.stay (At.new2 w (0, 0) _ _) hb1; have x0 := A0.c0; have x1 := A0.c1; have y0 := A1.c0; have y1 := A1.c1; have z0 := A2.c0; have z1 := A2.c1; have z2 := A2.f0; have z3 := A2.f1) | (go_at_call_of 91 (Value.agg #[Value.int .i64 bl, Value.int .i64 bh]); refine (HEb.out _).mono ?_; rintro e w2 ⟨rfl, hb2⟩; have D0 := A0.stay hb2; have D1 := A1.stay hb2; have D2 := A2.stay hb2; have u0 := D0.c0; have u1 := D0.c1; have v0 := D1.c0; have v1 := D1.c1; have t0 := D2.c0; have t1 := D2.c1; have t2 := D2.f0; have t3 := D2.f1) | (go_at_call 85; refine (HM.out _).mono ?_; rintro e w3 ⟨rfl, hb3⟩))
  have E0 := D0.on (.cells #[.int .i64 m1, .int .i64 m2] 54) hb3
  have E1 := D1.on (.cells #[.int .i64 m1, .int .i64 m2] 54) hb3
  have E2 := D2.on (.cells #[.int .i64 m1, .int .i64 m2] 54) hb3
  have BB := Below.one (Below.on (Below.on (Below.on (hb _ _ _) hb1) hb2) hb3) (.cells #[.int .i64 m1, .int .i64 m2] 54)
  clear x0 x1 y0 y1 z0 z1 z2 z3 u0 u1 v0 v1 t0 t1 t2 t3 A0 A1 A2 D0 D1 D2
  generalize w3.alloc (.cells #[.int .i64 m1, .int .i64 m2] 54) = W3 at *
  have x0 := E0.c0; have x1 := E0.c1
  go_wp2_with (first | (go_at_call 102; refine (HS.out _).mono ?_; rintro e w4 ⟨rfl, hb4⟩; have F0 := E0.stay hb4; have F1 := E1.stay hb4; have F2 := E2.stay hb4; have u0 := F0.c0; have u1 := F0.c1; have v0 := F1.c0; have v1 := F1.c1; have t0 := F2.c0; have t1 := F2.c1; have t2 := F2.f0; have t3 := F2.f1) | (go_at_call 101; refine (HT.out _ _ _).mono ?_; rintro e w5 ⟨rfl, hb5⟩; have G2 := F2.stay hb5; have s0 := G2.c0; have s1 := G2.c1; have s2 := G2.f0; have s3 := G2.f1))
  exact bodyPost_ret (v := .tuple #[sv (tru _ _), .bool true]) (by simp [results, Tryd.results82, go_sem, *]) rfl ⟨rfl, Below.put (Below.on (Below.on BB hb4) hb5) (by omega) _ _⟩
set_option maxHeartbeats 1000000 in
theorem do_equal10 (al ah bl bh : Int) (h1 : al ≤ ah) (h2 : bl ≤ bh) (h3 : al = ah) (h4 : (al, ah) ≠ (bl, bh)) (w : World) : Calls Tryd.prog 82 #[.int .i64 9, sv (al, ah), sv (bl, bh)] w fun e w' => e = .returned (.tuple #[sv (tru false (!meetB (al, ah) (bl, bh))), .bool true]) ∧ Below w.heap.size w w' := by
  have HEa : Hid (∀ w, Calls Tryd.prog 91 #[.agg #[.int .i64 al, .int .i64 ah]] w fun e w' => e = .returned (.bool false) ∧ Below w.heap.size w w') := emF h1
  have HEb : Hid (∀ w, Calls Tryd.prog 91 #[.agg #[.int .i64 bl, .int .i64 bh]] w fun e w' => e = .returned (.bool false) ∧ Below w.heap.size w w') := emF h2
  have hb := fun (o1 o2 o3 : Obj) => (Below.one (Below.one (Below.one (Below.refl _ w) o1) o2) o3 : Below w.heap.size w _)
  have HM := Hid.mk' fun w => meet_any (al, ah) (bl, bh) w
  have HT := Hid.mk' truth_any
  have HS : Hid (∀ w, Calls Tryd.prog 102 #[.agg #[.int .i64 al, .int .i64 ah]] w fun e w' => e = .returned (.bool true) ∧ Below w.heap.size w w') := fun w => by have := sglV al ah w; rwa [show (al == ah) = true by simp [h3]] at this
  have hg := eqGuard_s
  have hq : ∀ w, (Op.equalIn 10000 54 (.agg #[.int .i64 al, .int .i64 ah]) (.agg #[.int .i64 bl, .int .i64 bh])).run Tryd.prog w = .ok false w := fun w => equalIn_F h4 w
  generalize meetB (al, ah) (bl, bh) = mB at *
  generalize meetS (al, ah) (bl, bh) = mS at *
  obtain ⟨m1, m2⟩ := mS
  clear h1 h2 h3 h4
  go_enter Tryd.func82, Tryd.ntmps82
  go_upto_region 22 with (first | (go_at_call_of 91 (Value.agg #[Value.int .i64 al, Value.int .i64 ah]); refine (HEa.out _).mono ?_; rintro e w1 ⟨rfl, hb1⟩; have A0 := At.stay (At.more (At.more (At.new w (al, ah)) _) _) hb1; have A1 := At.stay (At.more (At.new1 w (bl, bh) _) _) hb1; have A2 := At.stay (At.new2 w (0, 0) _ _) hb1; have x0 := A0.c0; have x1 := A0.c1; have y0 := A1.c0; have y1 := A1.c1; have z0 := A2.c0; have z1 := A2.c1; have z2 := A2.f0; have z3 := A2.f1) | (go_at_call_of 91 (Value.agg #[Value.int .i64 bl, Value.int .i64 bh]); refine (HEb.out _).mono ?_; rintro e w2 ⟨rfl, hb2⟩; have D0 := A0.stay hb2; have D1 := A1.stay hb2; have D2 := A2.stay hb2; have u0 := D0.c0; have u1 := D0.c1; have v0 := D1.c0; have v1 := D1.c1; have t0 := D2.c0; have t1 := D2.c1; have t2 := D2.f0; have t3 := D2.f1) | (go_at_call 85; refine (HM.out _).mono ?_; rintro e w3 ⟨rfl, hb3⟩))
  have E0 := D0.on (.cells #[.int .i64 m1, .int .i64 m2] 54) hb3
  have E1 := D1.on (.cells #[.int .i64 m1, .int .i64 m2] 54) hb3
  have E2 := D2.on (.cells #[.int .i64 m1, .int .i64 m2] 54) hb3
  have BB := Below.one (Below.on (Below.on (Below.on (hb _ _ _) hb1) hb2) hb3) (.cells #[.int .i64 m1, .int .i64 m2] 54)
  clear x0 x1 y0 y1 z0 z1 z2 z3 u0 u1 v0 v1 t0 t1 t2 t3 A0 A1 A2 D0 D1 D2
  generalize w3.alloc (.cells #[.int .i64 m1, .int .i64 m2] 54) = W3 at *
  have x0 := E0.c0; have x1 := E0.c1
  go_wp2_with (first | (go_at_call 102; refine (HS.out _).mono ?_; rintro e w4 ⟨rfl, hb4⟩; have F0 := E0.stay hb4; have F1 := E1.stay hb4; have F2 := E2.stay hb4; have u0 := F0.c0; have u1 := F0.c1; have v0 := F1.c0; have v1 := F1.c1; have t0 := F2.c0; have t1 := F2.c1; have t2 := F2.f0; have t3 := F2.f1) | (go_at_call 101; refine (HT.out _ _ _).mono ?_; rintro e w5 ⟨rfl, hb5⟩; have G2 := F2.stay hb5; have s0 := G2.c0; have s1 := G2.c1; have s2 := G2.f0; have s3 := G2.f1))
  exact bodyPost_ret (v := .tuple #[sv (tru _ _), .bool true]) (by simp [results, Tryd.results82, go_sem, *]) rfl ⟨rfl, Below.put (Below.on (Below.on BB hb4) hb5) (by omega) _ _⟩
set_option maxHeartbeats 1000000 in
theorem do_equal00 (al ah bl bh : Int) (h1 : al ≤ ah) (h2 : bl ≤ bh) (h3 : al ≠ ah) (w : World) : Calls Tryd.prog 82 #[.int .i64 9, sv (al, ah), sv (bl, bh)] w fun e w' => e = .returned (.tuple #[sv (tru false (!meetB (al, ah) (bl, bh))), .bool true]) ∧ Below w.heap.size w w' := by
  have HEa : Hid (∀ w, Calls Tryd.prog 91 #[.agg #[.int .i64 al, .int .i64 ah]] w fun e w' => e = .returned (.bool false) ∧ Below w.heap.size w w') := emF h1
  have HEb : Hid (∀ w, Calls Tryd.prog 91 #[.agg #[.int .i64 bl, .int .i64 bh]] w fun e w' => e = .returned (.bool false) ∧ Below w.heap.size w w') := emF h2
  have hb := fun (o1 o2 o3 : Obj) => (Below.one (Below.one (Below.one (Below.refl _ w) o1) o2) o3 : Below w.heap.size w _)
  have HM := Hid.mk' fun w => meet_any (al, ah) (bl, bh) w
  have HT := Hid.mk' truth_any
  have HS : Hid (∀ w, Calls Tryd.prog 102 #[.agg #[.int .i64 al, .int .i64 ah]] w fun e w' => e = .returned (.bool false) ∧ Below w.heap.size w w') := fun w => by have := sglV al ah w; rwa [beq_no h3] at this
  have hu : undef = Value.tuple #[] := rfl
  generalize meetB (al, ah) (bl, bh) = mB at *
  generalize meetS (al, ah) (bl, bh) = mS at *
  obtain ⟨m1, m2⟩ := mS
  clear h1 h2 h3
  go_enter Tryd.func82, Tryd.ntmps82
  go_upto_region 22 with (first | (go_at_call_of 91 (Value.agg #[Value.int .i64 al, Value.int .i64 ah]); refine (HEa.out _).mono ?_; rintro e w1 ⟨rfl, hb1⟩; have A0 := At.stay (At.more (At.more (At.new w (al, ah)) _) _) hb1; have A1 := At.stay (At.more (At.new1 w (bl, bh) _) _) hb1; have A2 := At.stay (At.new2 w (0, 0) _ _) hb1; have x0 := A0.c0; have x1 := A0.c1; have y0 := A1.c0; have y1 := A1.c1; have z0 := A2.c0; have z1 := A2.c1; have z2 := A2.f0; have z3 := A2.f1) | (go_at_call_of 91 (Value.agg #[Value.int .i64 bl, Value.int .i64 bh]); refine (HEb.out _).mono ?_; rintro e w2 ⟨rfl, hb2⟩; have D0 := A0.stay hb2; have D1 := A1.stay hb2; have D2 := A2.stay hb2; have u0 := D0.c0; have u1 := D0.c1; have v0 := D1.c0; have v1 := D1.c1; have t0 := D2.c0; have t1 := D2.c1; have t2 := D2.f0; have t3 := D2.f1) | (go_at_call 85; refine (HM.out _).mono ?_; rintro e w3 ⟨rfl, hb3⟩))
  have E0 := D0.on (.cells #[.int .i64 m1, .int .i64 m2] 54) hb3
  have E1 := D1.on (.cells #[.int .i64 m1, .int .i64 m2] 54) hb3
  have E2 := D2.on (.cells #[.int .i64 m1, .int .i64 m2] 54) hb3
  have BB := Below.one (Below.on (Below.on (Below.on (hb _ _ _) hb1) hb2) hb3) (.cells #[.int .i64 m1, .int .i64 m2] 54)
  clear x0 x1 y0 y1 z0 z1 z2 z3 u0 u1 v0 v1 t0 t1 t2 t3 A0 A1 A2 D0 D1 D2
  generalize w3.alloc (.cells #[.int .i64 m1, .int .i64 m2] 54) = W3 at *
  have x0 := E0.c0; have x1 := E0.c1
  go_wp2_with (first | (go_at_call 102; refine (HS.out _).mono ?_; rintro e w4 ⟨rfl, hb4⟩; have F0 := E0.stay hb4; have F1 := E1.stay hb4; have F2 := E2.stay hb4; have u0 := F0.c0; have u1 := F0.c1; have v0 := F1.c0; have v1 := F1.c1; have t0 := F2.c0; have t1 := F2.c1; have t2 := F2.f0; have t3 := F2.f1) | (go_at_call 101; refine (HT.out _ _ _).mono ?_; rintro e w5 ⟨rfl, hb5⟩; have G2 := F2.stay hb5; have s0 := G2.c0; have s1 := G2.c1; have s2 := G2.f0; have s3 := G2.f1))
  exact bodyPost_ret (v := .tuple #[sv (tru _ _), .bool true]) (by simp [results, Tryd.results82, go_sem, *]) rfl ⟨rfl, Below.put (Below.on (Below.on BB hb4) hb5) (by omega) _ _⟩
set_option maxHeartbeats 1000000 in
theorem do_notF (al ah bl bh : Int) (h1 : al ≤ ah) (h2 : bl ≤ bh) (w : World) : Calls Tryd.prog 82 #[.int .i64 10, sv (al, ah), sv (bl, bh)] w fun e w' => e = .returned (.tuple #[sv (tru (al == 0 && ah == 0) (!hasB (al, ah) 0)), .bool true]) ∧ Below w.heap.size w w' := by
  have HEa : Hid (∀ w, Calls Tryd.prog 91 #[.agg #[.int .i64 al, .int .i64 ah]] w fun e w' => e = .returned (.bool false) ∧ Below w.heap.size w w') := emF h1
  have HEb : Hid (∀ w, Calls Tryd.prog 91 #[.agg #[.int .i64 bl, .int .i64 bh]] w fun e w' => e = .returned (.bool false) ∧ Below w.heap.size w w') := emF h2
  have hb := fun (o1 o2 o3 : Obj) => (Below.one (Below.one (Below.one (Below.refl _ w) o1) o2) o3 : Below w.heap.size w _)
  have hg := eqGuard_s
  have hq : ∀ w, (Op.equalIn 10000 54 (.agg #[.int .i64 al, .int .i64 ah]) (.agg #[.int .i64 0, .int .i64 0])).run Tryd.prog w = .ok (al == 0 && ah == 0) w := fun w => equalIn_s al ah 0 0 w
  have HP : Hid (∀ w, Calls Tryd.prog 100 #[.int .i64 0] w fun e w' => e = .returned (.agg #[.int .i64 0, .int .i64 0]) ∧ Below w.heap.size w w') := fun w => point_any 0 w
  have HH : Hid (∀ w, Calls Tryd.prog 103 #[.agg #[.int .i64 al, .int .i64 ah], .int .i64 0] w fun e w' => e = .returned (.bool (hasB (al, ah) 0)) ∧ Below w.heap.size w w') := fun w => has_any (al, ah) 0 w
  have HT := Hid.mk' truth_any
  generalize hasB (al, ah) 0 = hB at *
  generalize (al == 0 && ah == 0) = qB at *
  clear h1 h2
  go_enter Tryd.func82, Tryd.ntmps82
  go_upto_region 23 with (first | (go_at_call_of 91 (Value.agg #[Value.int .i64 al, Value.int .i64 ah]); refine (HEa.out _).mono ?_; rintro e w1 ⟨rfl, hb1⟩; have A0 := At.stay (At.more (At.more (At.new w (al, ah)) _) _) hb1; have A1 := At.stay (At.more (At.new1 w (bl, bh) _) _) hb1; have A2 := At.stay (At.new2 w (0, 0) _ _) hb1; have x0 := A0.c0; have x1 := A0.c1; have y0 := A1.c0; have y1 := A1.c1; have z0 := A2.c0; have z1 := A2.c1; have z2 := A2.f0; have z3 := A2.f1) | (go_at_call_of 91 (Value.agg #[Value.int .i64 bl, Value.int .i64 bh]); refine (HEb.out _).mono ?_; rintro e w2 ⟨rfl, hb2⟩; have D0 := A0.stay hb2; have D1 := A1.stay hb2; have D2 := A2.stay hb2; have u0 := D0.c0; have u1 := D0.c1; have v0 := D1.c0; have v1 := D1.c1; have t0 := D2.c0; have t1 := D2.c1; have t2 := D2.f0; have t3 := D2.f1))
  have BB := (Below.on (Below.on (hb _ _ _) hb1) hb2)
  have r0 := D0.r0; have r1 := D0.r1
  clear x0 x1 y0 y1 z0 z1 z2 z3 u0 u1 v0 v1 t0 t1 t2 t3 A0 A1 A2
  refine region_below_tail 7 (by kernel_rfl) (by kernel_rfl) ?_
  simp only [List.take_succ_cons, List.take_zero, List.drop_succ_cons, List.drop_zero]
  repeat (go_big_quiet_step (first | (go_at_call 100; with_reducible exact Calls.regrown_of (HP.out _)) | (go_at_call 103; with_reducible exact Calls.regrown_of (HH.out _)) | (go_at_call 101; with_reducible exact Calls.regrown_of (HT.out _ _ _))))
  refine wpQuiet_nil ?_
  intro _ hw'
  obtain ⟨⟨dq, osq⟩, hw''⟩ := hw'
  subst hw''
  have B5 : Below w2.heap.size w2 (grow (redrawn w2 dq) osq) := below_regrown _ dq osq
  replace D2 := D2.stay B5
  replace BB := Below.on BB B5
  clear B5 r0 r1 hb hb1 hb2 D0 D1
  simp only
  generalize grow (redrawn w2 dq) osq = W2 at *
  have t0 := D2.c0; have t1 := D2.c1; have t2 := D2.f0; have t3 := D2.f1
  go_wp2_with fail
  exact bodyPost_ret (v := .tuple #[sv (tru _ _), .bool true]) (by simp [results, Tryd.results82, go_sem, *]) rfl ⟨rfl, Below.put BB (by omega) _ _⟩
set_option maxHeartbeats 1000000 in
theorem do_notT (al ah bl bh : Int) (h1 : al ≤ ah) (h2 : bh < bl) (w : World) : Calls Tryd.prog 82 #[.int .i64 10, sv (al, ah), sv (bl, bh)] w fun e w' => e = .returned (.tuple #[sv (tru (al == 0 && ah == 0) (!hasB (al, ah) 0)), .bool true]) ∧ Below w.heap.size w w' := by
  have HEa : Hid (∀ w, Calls Tryd.prog 91 #[.agg #[.int .i64 al, .int .i64 ah]] w fun e w' => e = .returned (.bool false) ∧ Below w.heap.size w w') := emF h1
  have HEb : Hid (∀ w, Calls Tryd.prog 91 #[.agg #[.int .i64 bl, .int .i64 bh]] w fun e w' => e = .returned (.bool true) ∧ Below w.heap.size w w') := emT h2
  have hb := fun (o1 o2 o3 : Obj) => (Below.one (Below.one (Below.one (Below.refl _ w) o1) o2) o3 : Below w.heap.size w _)
  have hg := eqGuard_s
  have hq : ∀ w, (Op.equalIn 10000 54 (.agg #[.int .i64 al, .int .i64 ah]) (.agg #[.int .i64 0, .int .i64 0])).run Tryd.prog w = .ok (al == 0 && ah == 0) w := fun w => equalIn_s al ah 0 0 w
  have HP : Hid (∀ w, Calls Tryd.prog 100 #[.int .i64 0] w fun e w' => e = .returned (.agg #[.int .i64 0, .int .i64 0]) ∧ Below w.heap.size w w') := fun w => point_any 0 w
  have HH : Hid (∀ w, Calls Tryd.prog 103 #[.agg #[.int .i64 al, .int .i64 ah], .int .i64 0] w fun e w' => e = .returned (.bool (hasB (al, ah) 0)) ∧ Below w.heap.size w w') := fun w => has_any (al, ah) 0 w
  have HT := Hid.mk' truth_any
  generalize hasB (al, ah) 0 = hB at *
  generalize (al == 0 && ah == 0) = qB at *
  clear h1 h2
  go_enter Tryd.func82, Tryd.ntmps82
  go_upto_region 23 with (first | (go_at_call_of 91 (Value.agg #[Value.int .i64 al, Value.int .i64 ah]); refine (HEa.out _).mono ?_; rintro e w1 ⟨rfl, hb1⟩; have A0 := At.stay (At.more (At.more (At.new w (al, ah)) _) _) hb1; have A1 := At.stay (At.more (At.new1 w (bl, bh) _) _) hb1; have A2 := At.stay (At.new2 w (0, 0) _ _) hb1; have x0 := A0.c0; have x1 := A0.c1; have y0 := A1.c0; have y1 := A1.c1; have z0 := A2.c0; have z1 := A2.c1; have z2 := A2.f0; have z3 := A2.f1) | (go_at_call_of 91 (Value.agg #[Value.int .i64 bl, Value.int .i64 bh]); refine (HEb.out _).mono ?_; rintro e w2 ⟨rfl, hb2⟩; have D0 := A0.stay hb2; have D1 := A1.stay hb2; have D2 := A2.stay hb2; have u0 := D0.c0; have u1 := D0.c1; have v0 := D1.c0; have v1 := D1.c1; have t0 := D2.c0; have t1 := D2.c1; have t2 := D2.f0; have t3 := D2.f1))
  have BB := (Below.on (Below.on (hb _ _ _) hb1) hb2)
  have r0 := D0.r0; have r1 := D0.r1
  clear x0 x1 y0 y1 z0 z1 z2 z3 u0 u1 v0 v1 t0 t1 t2 t3 A0 A1 A2
  refine region_below_tail 7 (by kernel_rfl) (by kernel_rfl) ?_
  simp only [List.take_succ_cons, List.take_zero, List.drop_succ_cons, List.drop_zero]
  repeat (go_big_quiet_step (first | (go_at_call 100; with_reducible exact Calls.regrown_of (HP.out _)) | (go_at_call 103; with_reducible exact Calls.regrown_of (HH.out _)) | (go_at_call 101; with_reducible exact Calls.regrown_of (HT.out _ _ _))))
  refine wpQuiet_nil ?_
  intro _ hw'
  obtain ⟨⟨dq, osq⟩, hw''⟩ := hw'
  subst hw''
  have B5 : Below w2.heap.size w2 (grow (redrawn w2 dq) osq) := below_regrown _ dq osq
  replace D2 := D2.stay B5
  replace BB := Below.on BB B5
  clear B5 r0 r1 hb hb1 hb2 D0 D1
  simp only
  generalize grow (redrawn w2 dq) osq = W2 at *
  have t0 := D2.c0; have t1 := D2.c1; have t2 := D2.f0; have t3 := D2.f1
  go_wp2_with fail
  exact bodyPost_ret (v := .tuple #[sv (tru _ _), .bool true]) (by simp [results, Tryd.results82, go_sem, *]) rfl ⟨rfl, Below.put BB (by omega) _ _⟩
end Go.Proofs.YtfmkjdfidenfkaaDoor.S8
namespace Go.Proofs.YtfmkjdfidenfkaaDoor.S8
open Go.RowKit Go.Lib Go.Sort

theorem most_nm {b : Sp} (hb : b.Ok) (h0 : b ≠ (0, 0)) : 1 ≤ max (dis b.1) (dis b.2) ∧ max (dis b.1) (dis b.2) ≤ 9223372036854775808 := by
  have h1 := dis_nm hb.1
  have h2 := dis_nm hb.2
  have h3 : b.1 ≠ 0 ∨ b.2 ≠ 0 := by
    by_cases e : b.1 = 0
    · exact .inr fun e2 => h0 (Prod.ext e e2)
    · exact .inl e
  have h4 : dis b.1 = 0 → b.1 = 0 := fun h => by unfold dis at h; split at h <;> omega
  have h5 : dis b.2 = 0 → b.2 = 0 := fun h => by unfold dis at h; split at h <;> omega
  omega
set_option maxHeartbeats 1000000 in
theorem remainders_any (a b : Sp) (ha : a.Ok) (hb' : b.Ok) (h0 : b ≠ (0, 0)) (w : World) : Calls Tryd.prog 99 #[sv a, sv b] w fun e w' => e = .returned (sv (remS a b)) ∧ Below w.heap.size w w' := by
  have hm := most_nm hb' h0
  obtain ⟨al, ah⟩ := a
  obtain ⟨bl, bh⟩ := b
  have HR : Hid (remS (al, ah) (bl, bh) = (min 0 (max al (-(max (dis bl) (dis bh) - 1))), max 0 (min ah (max (dis bl) (dis bh) - 1)))) := rfl
  have HD1 : Hid (∀ w, Calls Tryd.prog 112 #[.int .i64 bl] w fun e w' => e = .returned (.int .u64 (dis bl)) ∧ w' = w) := fun w => distance_any bl hb'.1 w
  have HD2 : Hid (∀ w, Calls Tryd.prog 112 #[.int .i64 bh] w fun e w' => e = .returned (.int .u64 (dis bh)) ∧ w' = w) := fun w => distance_any bh hb'.2 w
  have hA1 := ha.1
  have hA2 := ha.2
  unfold Nm at hA1 hA2
  simp only at hm hA1 hA2
  clear ha hb' h0
  have hb := fun (o1 o2 o3 : Obj) => (Below.one (Below.one (Below.one (Below.refl _ w) o1) o2) o3 : Below w.heap.size w _)
  generalize remS (al, ah) (bl, bh) = R at *
  generalize dis bl = D1 at *
  generalize dis bh = D2 at *
  go_enter Tryd.func99, Tryd.ntmps99
  go_upto_region 1 with fail
  have B0 := hb (.cells #[.int .i64 al, .int .i64 ah] 54) (.cells #[.int .i64 bl, .int .i64 bh] 54) (.cells #[.int .i64 0, .int .i64 0] 54)
  have A0 := At.more (At.more (At.new w (al, ah)) (.cells #[.int .i64 bl, .int .i64 bh] 54)) (.cells #[.int .i64 0, .int .i64 0] 54)
  have A1 := At.more (At.new1 w (bl, bh) (.cells #[.int .i64 al, .int .i64 ah] 54)) (.cells #[.int .i64 0, .int .i64 0] 54)
  have A2 := At.new2 w (0, 0) (.cells #[.int .i64 al, .int .i64 ah] 54) (.cells #[.int .i64 bl, .int .i64 bh] 54)
  clear hb
  simp only at A0 A1 A2
  generalize ((w.alloc (.cells #[.int .i64 al, .int .i64 ah] 54)).alloc (.cells #[.int .i64 bl, .int .i64 bh] 54)).alloc (.cells #[.int .i64 0, .int .i64 0] 54) = W at *
  have HD1' : Hid (∀ w, Calls Tryd.prog 112 #[.int .i64 bl] w fun e w' => e = .returned (.int .u64 D1) ∧ Below w.heap.size w w') := fun w => (HD1.out w).mono fun e w' ⟨h1, h2⟩ => ⟨h1, h2 ▸ Below.refl _ _⟩
  have HD2' : Hid (∀ w, Calls Tryd.prog 112 #[.int .i64 bh] w fun e w' => e = .returned (.int .u64 D2) ∧ Below w.heap.size w w') := fun w => (HD2.out w).mono fun e w' ⟨h1, h2⟩ => ⟨h1, h2 ▸ Below.refl _ _⟩
  have x0 := A1.r0; have x1 := A1.r1
  clear HD1 HD2
  refine wp_region_quiet_below (by kernel_rfl) (by kernel_rfl) ?_
  repeat (go_big_quiet_step (first | (go_at_call_of 112 (Value.int .i64 bl); with_reducible exact Calls.regrown_of (HD1'.out _)) | (go_at_call_of 112 (Value.int .i64 bh); with_reducible exact Calls.regrown_of (HD2'.out _))))
  refine wpQuiet_nil ?_
  intro _ hw'
  obtain ⟨⟨dq, osq⟩, hw''⟩ := hw'
  subst hw''
  have B1 : Below W.heap.size W (grow (redrawn W dq) osq) := below_regrown _ dq osq
  replace A0 := A0.stay B1
  replace A2 := A2.stay B1
  have B2 := Below.on B0 B1
  clear B0 B1 x0 x1 A1 HD1' HD2'
  simp only
  generalize grow (redrawn W dq) osq = W2 at *
  clear W
  have y0 := A0.c0; have y1 := A0.c1; have z0 := A2.c0; have z1 := A2.c1; have z2 := A2.f0; have z3 := A2.f1
  have hR := HR.out
  clear HR
  obtain ⟨M, hM⟩ : ∃ M, M = (if D1 < D2 then D2 else D1) - 1 := ⟨_, rfl⟩
  have hM2 : max D1 D2 - 1 = M := by rw [hM]; split <;> omega
  rw [hM2] at hR
  rw [← hM]
  have HR : Hid (R = (min 0 (max al (-M)), max 0 (min ah M))) := hR
  have hm1 : 0 ≤ M ∧ M ≤ 9223372036854775807 := by omega
  clear hM hM2 hm hR
  go_wp2_with fail
  all_goals exact bodyPost_ret (v := sv R) (by rw [HR.out]; simp [results, Tryd.results99, go_sem, *] <;> omega) rfl ⟨rfl, (B2.setCell (by simp; omega) _).setCell (by simp; omega) _⟩
end Go.Proofs.YtfmkjdfidenfkaaDoor.S8
namespace Go.Proofs.YtfmkjdfidenfkaaDoor.S8
open Go.RowKit Go.Lib Go.Sort

set_option maxHeartbeats 1000000 in
theorem do_div (al ah bl bh : Int) (h1 : al ≤ ah) (h2 : bl ≤ bh) (ha : Sp.Ok (al, ah)) (h3 : (bl, bh) ≠ (0, 0)) (w : World) : Calls Tryd.prog 82 #[.int .i64 6, sv (al, ah), sv (bl, bh)] w fun e w' => e = .returned (.tuple #[sv (quoS (al, ah) (bl, bh)), .bool true]) ∧ Below w.heap.size w w' := by
  have HEa : Hid (∀ w, Calls Tryd.prog 91 #[.agg #[.int .i64 al, .int .i64 ah]] w fun e w' => e = .returned (.bool false) ∧ Below w.heap.size w w') := emF h1
  have HEb : Hid (∀ w, Calls Tryd.prog 91 #[.agg #[.int .i64 bl, .int .i64 bh]] w fun e w' => e = .returned (.bool false) ∧ Below w.heap.size w w') := emF h2
  have hb := fun (o1 o2 o3 : Obj) => (Below.one (Below.one (Below.one (Below.refl _ w) o1) o2) o3 : Below w.heap.size w _)
  have HC := Hid.mk' fun w => quotients_any (al, ah) (bl, bh) ha h1 w
  generalize quoS (al, ah) (bl, bh) = R at *
  obtain ⟨R1, R2⟩ := R
  have hg := eqGuard_s
  have hq : ∀ w, (Op.equalIn 10000 54 (.agg #[.int .i64 bl, .int .i64 bh]) (.agg #[.int .i64 0, .int .i64 0])).run Tryd.prog w = .ok false w := fun w => equalIn_F h3 w
  have HP : Hid (∀ w, Calls Tryd.prog 100 #[.int .i64 0] w fun e w' => e = .returned (.agg #[.int .i64 0, .int .i64 0]) ∧ Below w.heap.size w w') := fun w => point_any 0 w
  clear h1 h2 h3
  go_enter Tryd.func82, Tryd.ntmps82
  go_upto_region 17 with (first | (go_at_call_of 91 (Value.agg #[Value.int .i64 al, Value.int .i64 ah]); refine (HEa.out _).mono ?_; rintro e w1 ⟨rfl, hb1⟩; have A0 := At.stay (At.more (At.more (At.new w (al, ah)) _) _) hb1; have A1 := At.stay (At.more (At.new1 w (bl, bh) _) _) hb1; have A2 := At.stay (At.new2 w (0, 0) _ _) hb1; have x0 := A0.c0; have x1 := A0.c1; have y0 := A1.c0; have y1 := A1.c1; have z0 := A2.c0; have z1 := A2.c1; have z2 := A2.f0; have z3 := A2.f1) | (go_at_call_of 91 (Value.agg #[Value.int .i64 bl, Value.int .i64 bh]); refine (HEb.out _).mono ?_; rintro e w2 ⟨rfl, hb2⟩; have D0 := A0.stay hb2; have D1 := A1.stay hb2; have D2 := A2.stay hb2; have u0 := D0.c0; have u1 := D0.c1; have v0 := D1.c0; have v1 := D1.c1; have t0 := D2.c0; have t1 := D2.c1; have t2 := D2.f0; have t3 := D2.f1))
  have BB := (Below.on (Below.on (hb _ _ _) hb1) hb2)
  have r0 := D1.r0; have r1 := D1.r1
  clear x0 x1 y0 y1 z0 z1 z2 z3 u0 u1 v0 v1 t0 t1 t2 t3 A0 A1 A2
  refine wp_region_quiet_below (by kernel_rfl) (by kernel_rfl) ?_
  repeat (go_big_quiet_step ((go_at_call 100; with_reducible exact Calls.regrown_of (HP.out _))))
  refine wpQuiet_nil ?_
  intro _ hw'
  obtain ⟨⟨dq, osq⟩, hw''⟩ := hw'
  subst hw''
  have B5 : Below w2.heap.size w2 (grow (redrawn w2 dq) osq) := below_regrown _ dq osq
  replace D0 := D0.stay B5
  replace D1 := D1.stay B5
  replace D2 := D2.stay B5
  replace BB := Below.on BB B5
  clear B5 r0 r1 hb hb1 hb2
  simp only
  generalize grow (redrawn w2 dq) osq = W2 at *
  have u0 := D0.c0; have u1 := D0.c1; have v0 := D1.c0; have v1 := D1.c1; have t0 := D2.c0; have t1 := D2.c1; have t2 := D2.f0; have t3 := D2.f1
  go_wp2_with (go_at_call 95; refine (HC.out _).mono ?_; rintro e w3 ⟨rfl, hb3⟩; have E2 := D2.stay hb3; have s0 := E2.c0; have s1 := E2.c1; have s2 := E2.f0; have s3 := E2.f1)
  exact bodyPost_ret (v := .tuple #[sv (R1, R2), .bool true]) (by simp [results, Tryd.results82, go_sem, *]) rfl ⟨rfl, Below.put (Below.on BB hb3) (by omega) _ _⟩
set_option maxHeartbeats 1000000 in
theorem do_divZ (al ah bl bh : Int) (h1 : al ≤ ah) (h2 : bl ≤ bh) (h3 : (bl, bh) = (0, 0)) (w : World) : Calls Tryd.prog 82 #[.int .i64 6, sv (al, ah), sv (bl, bh)] w fun e w' => e = .returned (.tuple #[sv (0, 0), .bool false]) ∧ Below w.heap.size w w' := by
  have HEa : Hid (∀ w, Calls Tryd.prog 91 #[.agg #[.int .i64 al, .int .i64 ah]] w fun e w' => e = .returned (.bool false) ∧ Below w.heap.size w w') := emF h1
  have HEb : Hid (∀ w, Calls Tryd.prog 91 #[.agg #[.int .i64 bl, .int .i64 bh]] w fun e w' => e = .returned (.bool false) ∧ Below w.heap.size w w') := emF h2
  have hb := fun (o1 o2 o3 : Obj) => (Below.one (Below.one (Below.one (Below.refl _ w) o1) o2) o3 : Below w.heap.size w _)
  have hg := eqGuard_s
  have hq : ∀ w, (Op.equalIn 10000 54 (.agg #[.int .i64 bl, .int .i64 bh]) (.agg #[.int .i64 0, .int .i64 0])).run Tryd.prog w = .ok true w := fun w => equalIn_T h3 w
  have HP : Hid (∀ w, Calls Tryd.prog 100 #[.int .i64 0] w fun e w' => e = .returned (.agg #[.int .i64 0, .int .i64 0]) ∧ Below w.heap.size w w') := fun w => point_any 0 w
  clear h1 h2 h3
  go_enter Tryd.func82, Tryd.ntmps82
  go_upto_region 17 with (first | (go_at_call_of 91 (Value.agg #[Value.int .i64 al, Value.int .i64 ah]); refine (HEa.out _).mono ?_; rintro e w1 ⟨rfl, hb1⟩; have A0 := At.stay (At.more (At.more (At.new w (al, ah)) _) _) hb1; have A1 := At.stay (At.more (At.new1 w (bl, bh) _) _) hb1; have A2 := At.stay (At.new2 w (0, 0) _ _) hb1; have x0 := A0.c0; have x1 := A0.c1; have y0 := A1.c0; have y1 := A1.c1; have z0 := A2.c0; have z1 := A2.c1; have z2 := A2.f0; have z3 := A2.f1) | (go_at_call_of 91 (Value.agg #[Value.int .i64 bl, Value.int .i64 bh]); refine (HEb.out _).mono ?_; rintro e w2 ⟨rfl, hb2⟩; have D0 := A0.stay hb2; have D1 := A1.stay hb2; have D2 := A2.stay hb2; have u0 := D0.c0; have u1 := D0.c1; have v0 := D1.c0; have v1 := D1.c1; have t0 := D2.c0; have t1 := D2.c1; have t2 := D2.f0; have t3 := D2.f1))
  have BB := (Below.on (Below.on (hb _ _ _) hb1) hb2)
  have r0 := D1.r0; have r1 := D1.r1
  clear x0 x1 y0 y1 z0 z1 z2 z3 u0 u1 v0 v1 t0 t1 t2 t3 A0 A1 A2
  refine wp_region_quiet_below (by kernel_rfl) (by kernel_rfl) ?_
  repeat (go_big_quiet_step ((go_at_call 100; with_reducible exact Calls.regrown_of (HP.out _))))
  refine wpQuiet_nil ?_
  intro _ hw'
  obtain ⟨⟨dq, osq⟩, hw''⟩ := hw'
  subst hw''
  have B5 : Below w2.heap.size w2 (grow (redrawn w2 dq) osq) := below_regrown _ dq osq
  replace D0 := D0.stay B5
  replace D1 := D1.stay B5
  replace D2 := D2.stay B5
  replace BB := Below.on BB B5
  clear B5 r0 r1 hb hb1 hb2
  simp only
  generalize grow (redrawn w2 dq) osq = W2 at *
  have u0 := D0.c0; have u1 := D0.c1; have v0 := D1.c0; have v1 := D1.c1; have t0 := D2.c0; have t1 := D2.c1; have t2 := D2.f0; have t3 := D2.f1
  go_wp2_with fail
  exact bodyPost_ret (v := .tuple #[sv (0, 0), .bool false]) (by simp [results, Tryd.results82, go_sem, *]) rfl ⟨rfl, Below.put BB (by omega) _ _⟩
set_option maxHeartbeats 1000000 in
theorem do_rem (al ah bl bh : Int) (h1 : al ≤ ah) (h2 : bl ≤ bh) (ha : Sp.Ok (al, ah)) (hb' : Sp.Ok (bl, bh)) (h3 : (bl, bh) ≠ (0, 0)) (w : World) : Calls Tryd.prog 82 #[.int .i64 7, sv (al, ah), sv (bl, bh)] w fun e w' => e = .returned (.tuple #[sv (remS (al, ah) (bl, bh)), .bool true]) ∧ Below w.heap.size w w' := by
  have HEa : Hid (∀ w, Calls Tryd.prog 91 #[.agg #[.int .i64 al, .int .i64 ah]] w fun e w' => e = .returned (.bool false) ∧ Below w.heap.size w w') := emF h1
  have HEb : Hid (∀ w, Calls Tryd.prog 91 #[.agg #[.int .i64 bl, .int .i64 bh]] w fun e w' => e = .returned (.bool false) ∧ Below w.heap.size w w') := emF h2
  have hb := fun (o1 o2 o3 : Obj) => (Below.one (Below.one (Below.one (Below.refl _ w) o1) o2) o3 : Below w.heap.size w _)
  have HC := Hid.mk' fun w => remainders_any (al, ah) (bl, bh) ha hb' h3 w
  generalize remS (al, ah) (bl, bh) = R at *
  obtain ⟨R1, R2⟩ := R
  have hg := eqGuard_s
  have hq : ∀ w, (Op.equalIn 10000 54 (.agg #[.int .i64 bl, .int .i64 bh]) (.agg #[.int .i64 0, .int .i64 0])).run Tryd.prog w = .ok false w := fun w => equalIn_F h3 w
  have HP : Hid (∀ w, Calls Tryd.prog 100 #[.int .i64 0] w fun e w' => e = .returned (.agg #[.int .i64 0, .int .i64 0]) ∧ Below w.heap.size w w') := fun w => point_any 0 w
  clear h1 h2 h3
  go_enter Tryd.func82, Tryd.ntmps82
  go_upto_region 17 with (first | (go_at_call_of 91 (Value.agg #[Value.int .i64 al, Value.int .i64 ah]); refine (HEa.out _).mono ?_; rintro e w1 ⟨rfl, hb1⟩; have A0 := At.stay (At.more (At.more (At.new w (al, ah)) _) _) hb1; have A1 := At.stay (At.more (At.new1 w (bl, bh) _) _) hb1; have A2 := At.stay (At.new2 w (0, 0) _ _) hb1; have x0 := A0.c0; have x1 := A0.c1; have y0 := A1.c0; have y1 := A1.c1; have z0 := A2.c0; have z1 := A2.c1; have z2 := A2.f0; have z3 := A2.f1) | (go_at_call_of 91 (Value.agg #[Value.int .i64 bl, Value.int .i64 bh]); refine (HEb.out _).mono ?_; rintro e w2 ⟨rfl, hb2⟩; have D0 := A0.stay hb2; have D1 := A1.stay hb2; have D2 := A2.stay hb2; have u0 := D0.c0; have u1 := D0.c1; have v0 := D1.c0; have v1 := D1.c1; have t0 := D2.c0; have t1 := D2.c1; have t2 := D2.f0; have t3 := D2.f1))
  have BB := (Below.on (Below.on (hb _ _ _) hb1) hb2)
  have r0 := D1.r0; have r1 := D1.r1
  clear x0 x1 y0 y1 z0 z1 z2 z3 u0 u1 v0 v1 t0 t1 t2 t3 A0 A1 A2
  refine wp_region_quiet_below (by kernel_rfl) (by kernel_rfl) ?_
  repeat (go_big_quiet_step ((go_at_call 100; with_reducible exact Calls.regrown_of (HP.out _))))
  refine wpQuiet_nil ?_
  intro _ hw'
  obtain ⟨⟨dq, osq⟩, hw''⟩ := hw'
  subst hw''
  have B5 : Below w2.heap.size w2 (grow (redrawn w2 dq) osq) := below_regrown _ dq osq
  replace D0 := D0.stay B5
  replace D1 := D1.stay B5
  replace D2 := D2.stay B5
  replace BB := Below.on BB B5
  clear B5 r0 r1 hb hb1 hb2
  simp only
  generalize grow (redrawn w2 dq) osq = W2 at *
  have u0 := D0.c0; have u1 := D0.c1; have v0 := D1.c0; have v1 := D1.c1; have t0 := D2.c0; have t1 := D2.c1; have t2 := D2.f0; have t3 := D2.f1
  go_wp2_with (go_at_call 99; refine (HC.out _).mono ?_; rintro e w3 ⟨rfl, hb3⟩; have E2 := D2.stay hb3; have s0 := E2.c0; have s1 := E2.c1; have s2 := E2.f0; have s3 := E2.f1)
  exact bodyPost_ret (v := .tuple #[sv (R1, R2), .bool true]) (by simp [results, Tryd.results82, go_sem, *]) rfl ⟨rfl, Below.put (Below.on BB hb3) (by omega) _ _⟩
set_option maxHeartbeats 1000000 in
theorem do_remZ (al ah bl bh : Int) (h1 : al ≤ ah) (h2 : bl ≤ bh) (h3 : (bl, bh) = (0, 0)) (w : World) : Calls Tryd.prog 82 #[.int .i64 7, sv (al, ah), sv (bl, bh)] w fun e w' => e = .returned (.tuple #[sv (0, 0), .bool false]) ∧ Below w.heap.size w w' := by
  have HEa : Hid (∀ w, Calls Tryd.prog 91 #[.agg #[.int .i64 al, .int .i64 ah]] w fun e w' => e = .returned (.bool false) ∧ Below w.heap.size w w') := emF h1
  have HEb : Hid (∀ w, Calls Tryd.prog 91 #[.agg #[.int .i64 bl, .int .i64 bh]] w fun e w' => e = .returned (.bool false) ∧ Below w.heap.size w w') := emF h2
  have hb := fun (o1 o2 o3 : Obj) => (Below.one (Below.one (Below.one (Below.refl _ w) o1) o2) o3 : Below w.heap.size w _)
  have hg := eqGuard_s
  have hq : ∀ w, (Op.equalIn 10000 54 (.agg #[.int .i64 bl, .int .i64 bh]) (.agg #[.int .i64 0, .int .i64 0])).run Tryd.prog w = .ok true w := fun w => equalIn_T h3 w
  have HP : Hid (∀ w, Calls Tryd.prog 100 #[.int .i64 0] w fun e w' => e = .returned (.agg #[.int .i64 0, .int .i64 0]) ∧ Below w.heap.size w w') := fun w => point_any 0 w
  clear h1 h2 h3
  go_enter Tryd.func82, Tryd.ntmps82
  go_upto_region 17 with (first | (go_at_call_of 91 (Value.agg #[Value.int .i64 al, Value.int .i64 ah]); refine (HEa.out _).mono ?_; rintro e w1 ⟨rfl, hb1⟩; have A0 := At.stay (At.more (At.more (At.new w (al, ah)) _) _) hb1; have A1 := At.stay (At.more (At.new1 w (bl, bh) _) _) hb1; have A2 := At.stay (At.new2 w (0, 0) _ _) hb1; have x0 := A0.c0; have x1 := A0.c1; have y0 := A1.c0; have y1 := A1.c1; have z0 := A2.c0; have z1 := A2.c1; have z2 := A2.f0; have z3 := A2.f1) | (go_at_call_of 91 (Value.agg #[Value.int .i64 bl, Value.int .i64 bh]); refine (HEb.out _).mono ?_; rintro e w2 ⟨rfl, hb2⟩; have D0 := A0.stay hb2; have D1 := A1.stay hb2; have D2 := A2.stay hb2; have u0 := D0.c0; have u1 := D0.c1; have v0 := D1.c0; have v1 := D1.c1; have t0 := D2.c0; have t1 := D2.c1; have t2 := D2.f0; have t3 := D2.f1))
  have BB := (Below.on (Below.on (hb _ _ _) hb1) hb2)
  have r0 := D1.r0; have r1 := D1.r1
  clear x0 x1 y0 y1 z0 z1 z2 z3 u0 u1 v0 v1 t0 t1 t2 t3 A0 A1 A2
  refine wp_region_quiet_below (by kernel_rfl) (by kernel_rfl) ?_
  repeat (go_big_quiet_step ((go_at_call 100; with_reducible exact Calls.regrown_of (HP.out _))))
  refine wpQuiet_nil ?_
  intro _ hw'
  obtain ⟨⟨dq, osq⟩, hw''⟩ := hw'
  subst hw''
  have B5 : Below w2.heap.size w2 (grow (redrawn w2 dq) osq) := below_regrown _ dq osq
  replace D0 := D0.stay B5
  replace D1 := D1.stay B5
  replace D2 := D2.stay B5
  replace BB := Below.on BB B5
  clear B5 r0 r1 hb hb1 hb2
  simp only
  generalize grow (redrawn w2 dq) osq = W2 at *
  have u0 := D0.c0; have u1 := D0.c1; have v0 := D1.c0; have v1 := D1.c1; have t0 := D2.c0; have t1 := D2.c1; have t2 := D2.f0; have t3 := D2.f1
  go_wp2_with fail
  exact bodyPost_ret (v := .tuple #[sv (0, 0), .bool false]) (by simp [results, Tryd.results82, go_sem, *]) rfl ⟨rfl, Below.put BB (by omega) _ _⟩
end Go.Proofs.YtfmkjdfidenfkaaDoor.S8
namespace Go.Proofs.YtfmkjdfidenfkaaDoor.S8
open Go.RowKit Go.Lib Go.Sort

def doR (op : Int) (a b : Sp) : Sp := (doS op a b).getD (0, 0)
def doB (op : Int) (a b : Sp) : Bool := (doS op a b).isSome
theorem do_some {op : Int} {a b s : Sp} (h : doS op a b = some s) : doR op a b = s ∧ doB op a b = true := by unfold doR doB; rw [h]; exact ⟨rfl, rfl⟩
theorem do_none {op : Int} {a b : Sp} (h : doS op a b = none) : doR op a b = (0, 0) ∧ doB op a b = false := by unfold doR doB; rw [h]; exact ⟨rfl, rfl⟩
theorem em_no {l h : Int} (H : l ≤ h) : emB (l, h) = false := decide_eq_false (by simp only; omega)
theorem em_yes {l h : Int} (H : h < l) : emB (l, h) = true := decide_eq_true H
theorem doS_op {op : Int} {a b : Sp} (ha : emB a = false) (hb : emB b = false) : doS op a b =
    (if op = 3 then some (sumS a b) else if op = 4 then some (difS a b) else if op = 5 then some (proS a b) else if op = 6 then (if b = (0, 0) then none else some (quoS a b)) else if op = 7 then (if b = (0, 0) then none else some (remS a b))
     else if op = 8 then some (tru (decide (a.2 < b.1)) (decide (b.2 ≤ a.1))) else if op = 9 then some (tru (sgB a && decide (a = b)) (!meetB a b)) else if op = 10 then some (tru (decide (a = (0, 0))) (!hasB a 0)) else none) := by
  unfold doS
  rw [ha, hb]
  simp only [Bool.false_and, Bool.or_false, Bool.false_eq_true, if_false]
theorem do_any (op : Int) (a b : Sp) (ha : a.Ok) (hb : b.Ok) (w : World) : Calls Tryd.prog 82 #[.int .i64 op, sv a, sv b] w fun e w' => e = .returned (.tuple #[sv (doR op a b), .bool (doB op a b)]) ∧ Below w.heap.size w w' := by
  obtain ⟨al, ah⟩ := a
  obtain ⟨bl, bh⟩ := b
  by_cases h1 : al ≤ ah
  · have ea := em_no h1
    by_cases o10 : op = 10
    · subst o10
      have hd : doS 10 (al, ah) (bl, bh) = some (tru (al == 0 && ah == 0) (!hasB (al, ah) 0)) := by
        rw [eq_and]
        unfold doS
        rw [ea]
        simp
      obtain ⟨e1, e2⟩ := do_some hd
      rw [e1, e2]
      by_cases h2 : bl ≤ bh
      · exact do_notF al ah bl bh h1 h2 w
      · exact do_notT al ah bl bh h1 (by omega) w
    · by_cases h2 : bl ≤ bh
      · have eb := em_no h2
        have hd := doS_op (op := op) ea eb
        by_cases o3 : op = 3
        · subst o3
          obtain ⟨e1, e2⟩ := do_some (hd.trans (by simp; rfl))
          rw [e1, e2]
          exact do_add al ah bl bh h1 h2 ha hb w
        by_cases o4 : op = 4
        · subst o4
          obtain ⟨e1, e2⟩ := do_some (hd.trans (by simp; rfl))
          rw [e1, e2]
          exact do_sub al ah bl bh h1 h2 ha hb w
        by_cases o5 : op = 5
        · subst o5
          obtain ⟨e1, e2⟩ := do_some (hd.trans (by simp; rfl))
          rw [e1, e2]
          exact do_mul al ah bl bh h1 h2 ha hb w
        by_cases o6 : op = 6
        · subst o6
          by_cases hz : (bl, bh) = (0, 0)
          · obtain ⟨e1, e2⟩ := do_none (hd.trans (by rw [hz]; simp))
            rw [e1, e2]
            exact do_divZ al ah bl bh h1 h2 hz w
          · obtain ⟨e1, e2⟩ := do_some (hd.trans (by rw [if_neg hz]; simp; rfl))
            rw [e1, e2]
            exact do_div al ah bl bh h1 h2 ha hz w
        by_cases o7 : op = 7
        · subst o7
          by_cases hz : (bl, bh) = (0, 0)
          · obtain ⟨e1, e2⟩ := do_none (hd.trans (by rw [hz]; simp))
            rw [e1, e2]
            exact do_remZ al ah bl bh h1 h2 hz w
          · obtain ⟨e1, e2⟩ := do_some (hd.trans (by rw [if_neg hz, if_neg hz]; simp; rfl))
            rw [e1, e2]
            exact do_rem al ah bl bh h1 h2 ha hb hz w
        by_cases o8 : op = 8
        · subst o8
          obtain ⟨e1, e2⟩ := do_some (hd.trans (by simp; rfl))
          rw [e1, e2]
          exact do_less al ah bl bh h1 h2 w
        by_cases o9 : op = 9
        · subst o9
          have hd' : doS 9 (al, ah) (bl, bh) = some (tru (sgB (al, ah) && decide ((al, ah) = (bl, bh))) (!meetB (al, ah) (bl, bh))) := hd.trans (by simp)
          obtain ⟨e1, e2⟩ := do_some hd'
          rw [e1, e2]
          by_cases h3 : al = ah
          · have e3 : sgB (al, ah) = true := decide_eq_true h3
            rw [e3]
            by_cases h4 : (al, ah) = (bl, bh)
            · rw [decide_eq_true h4]
              exact do_equal11 al ah bl bh h1 h2 h3 h4 w
            · rw [decide_eq_false h4]
              exact do_equal10 al ah bl bh h1 h2 h3 h4 w
          · have e3 : sgB (al, ah) = false := decide_eq_false h3
            rw [e3]
            exact do_equal00 al ah bl bh h1 h2 h3 w
        obtain ⟨e1, e2⟩ := do_none (hd.trans (by simp [o3, o4, o5, o6, o7, o8, o9, o10]))
        rw [e1, e2]
        exact do_other op al ah bl bh h1 h2 o3 o4 o5 o6 o7 o8 o9 o10 w
      · have eb := em_yes (show bh < bl by omega)
        obtain ⟨e1, e2⟩ := do_none (show doS op (al, ah) (bl, bh) = none by unfold doS; rw [ea, eb]; simp [o10])
        rw [e1, e2]
        exact do_emB op al ah bl bh h1 (by omega) o10 w
  · have ea := em_yes (show ah < al by omega)
    obtain ⟨e1, e2⟩ := do_none (show doS op (al, ah) (bl, bh) = none by unfold doS; rw [ea]; simp)
    rw [e1, e2]
    exact do_emA op al ah bl bh (by omega) w
end Go.Proofs.YtfmkjdfidenfkaaDoor.S8
namespace Go.Proofs.YtfmkjdfidenfkaaDoor.S8
open Go.RowKit Go.Lib Go.Sort

set_option maxHeartbeats 2000000 in
theorem below_any (a b : Sp) (ha : a.Ok) (hb' : b.Ok) (w : World) : Calls Tryd.prog 94 #[sv a, sv b] w fun e w' => e = .returned (.tuple #[sv (belA a b), sv (belC a b), .bool (belB a b)]) ∧ Below w.heap.size w w' := by
  obtain ⟨al, ah⟩ := a
  obtain ⟨bl, bh⟩ := b
  have hn1 := ha.1
  have hn2 := hb'.2
  unfold Nm at hn1 hn2
  simp only at hn1 hn2
  clear ha hb'
  have HE := Hid.mk' empV
  have hb := fun (o1 o2 o3 o4 : Obj) => (Below.one (Below.one (Below.one (Below.one (Below.refl _ w) o1) o2) o3) o4 : Below w.heap.size w _)
  by_cases h1 : ah < al
  · skip
    have e1 : belB (al, ah) (bl, bh) = false := decide_eq_false (by simp only; omega)
    have e2 : belA (al, ah) (bl, bh) = (0, 0) := if_neg (by simp only; omega)
    have e3 : belC (al, ah) (bl, bh) = (0, 0) := if_neg (by simp only; omega)
    rw [e1, e2, e3]
    clear e1 e2 e3
    have hu : undef = Value.tuple #[] := rfl
    go_enter Tryd.func94, Tryd.ntmps94
    go_wp2_with (go_at_call_of 91 (Value.agg #[Value.int .i64 al, Value.int .i64 ah]); refine (HE.out _ _ _).mono ?_; rintro e w1 ⟨rfl, hb1⟩; have A0 := At.stay (At.more (At.more (At.more (At.new w (al, ah)) _) _) _) hb1; have A1 := At.stay (At.more (At.more (At.new1 w (bl, bh) _) _) _) hb1; have A2 := At.stay (At.more (At.new2 w (0, 0) _ _) _) hb1; have A3 := At.stay (At.new3 w (0, 0) _ _ _) hb1; have x0 := A0.c0; have x1 := A0.c1; have y0 := A1.c0; have y1 := A1.c1; have z0 := A2.c0; have z1 := A2.c1; have z2 := A2.f0; have z3 := A2.f1; have q0 := A3.c0; have q1 := A3.c1; have q2 := A3.f0; have q3 := A3.f1)
    exact bodyPost_ret (v := .tuple #[sv (0, 0), sv (0, 0), .bool false]) (by simp [results, Tryd.results94, go_sem, *]) rfl ⟨rfl, ((((Below.on (hb _ _ _ _) hb1).setCell (by simp; omega) _).setCell (by simp; omega) _).setCell (by simp; omega) _).setCell (by simp; omega) _⟩
  · by_cases h2 : bh < bl
    · skip
      have e1 : belB (al, ah) (bl, bh) = false := decide_eq_false (by simp only; omega)
      have e2 : belA (al, ah) (bl, bh) = (0, 0) := if_neg (by simp only; omega)
      have e3 : belC (al, ah) (bl, bh) = (0, 0) := if_neg (by simp only; omega)
      rw [e1, e2, e3]
      clear e1 e2 e3
      have hu : undef = Value.tuple #[] := rfl
      go_enter Tryd.func94, Tryd.ntmps94
      go_wp2_with (first | (go_at_call_of 91 (Value.agg #[Value.int .i64 al, Value.int .i64 ah]); refine (HE.out _ _ _).mono ?_; rintro e w1 ⟨rfl, hb1⟩; have A0 := At.stay (At.more (At.more (At.more (At.new w (al, ah)) _) _) _) hb1; have A1 := At.stay (At.more (At.more (At.new1 w (bl, bh) _) _) _) hb1; have A2 := At.stay (At.more (At.new2 w (0, 0) _ _) _) hb1; have A3 := At.stay (At.new3 w (0, 0) _ _ _) hb1; have x0 := A0.c0; have x1 := A0.c1; have y0 := A1.c0; have y1 := A1.c1; have z0 := A2.c0; have z1 := A2.c1; have z2 := A2.f0; have z3 := A2.f1; have q0 := A3.c0; have q1 := A3.c1; have q2 := A3.f0; have q3 := A3.f1) | (go_at_call_of 91 (Value.agg #[Value.int .i64 bl, Value.int .i64 bh]); refine (HE.out _ _ _).mono ?_; rintro e w2 ⟨rfl, hb2⟩; have D0 := A0.stay hb2; have D1 := A1.stay hb2; have D2 := A2.stay hb2; have D3 := A3.stay hb2; have u0 := D0.c0; have u1 := D0.c1; have v0 := D1.c0; have v1 := D1.c1; have t0 := D2.c0; have t1 := D2.c1; have t2 := D2.f0; have t3 := D2.f1; have r0 := D3.c0; have r1 := D3.c1; have r2 := D3.f0; have r3 := D3.f1))
      exact bodyPost_ret (v := .tuple #[sv (0, 0), sv (0, 0), .bool false]) (by simp [results, Tryd.results94, go_sem, *]) rfl ⟨rfl, ((((Below.on (Below.on (hb _ _ _ _) hb1) hb2).setCell (by simp; omega) _).setCell (by simp; omega) _).setCell (by simp; omega) _).setCell (by simp; omega) _⟩
    · by_cases h3 : bh ≤ al
      · skip
        have e1 : belB (al, ah) (bl, bh) = false := decide_eq_false (by simp only; omega)
        have e2 : belA (al, ah) (bl, bh) = (0, 0) := if_neg (by simp only; omega)
        have e3 : belC (al, ah) (bl, bh) = (0, 0) := if_neg (by simp only; omega)
        rw [e1, e2, e3]
        clear e1 e2 e3
        go_enter Tryd.func94, Tryd.ntmps94
        go_wp2_with (first | (go_at_call_of 91 (Value.agg #[Value.int .i64 al, Value.int .i64 ah]); refine (HE.out _ _ _).mono ?_; rintro e w1 ⟨rfl, hb1⟩; have A0 := At.stay (At.more (At.more (At.more (At.new w (al, ah)) _) _) _) hb1; have A1 := At.stay (At.more (At.more (At.new1 w (bl, bh) _) _) _) hb1; have A2 := At.stay (At.more (At.new2 w (0, 0) _ _) _) hb1; have A3 := At.stay (At.new3 w (0, 0) _ _ _) hb1; have x0 := A0.c0; have x1 := A0.c1; have y0 := A1.c0; have y1 := A1.c1; have z0 := A2.c0; have z1 := A2.c1; have z2 := A2.f0; have z3 := A2.f1; have q0 := A3.c0; have q1 := A3.c1; have q2 := A3.f0; have q3 := A3.f1) | (go_at_call_of 91 (Value.agg #[Value.int .i64 bl, Value.int .i64 bh]); refine (HE.out _ _ _).mono ?_; rintro e w2 ⟨rfl, hb2⟩; have D0 := A0.stay hb2; have D1 := A1.stay hb2; have D2 := A2.stay hb2; have D3 := A3.stay hb2; have u0 := D0.c0; have u1 := D0.c1; have v0 := D1.c0; have v1 := D1.c1; have t0 := D2.c0; have t1 := D2.c1; have t2 := D2.f0; have t3 := D2.f1; have r0 := D3.c0; have r1 := D3.c1; have r2 := D3.f0; have r3 := D3.f1))
        exact bodyPost_ret (v := .tuple #[sv (0, 0), sv (0, 0), .bool false]) (by simp [results, Tryd.results94, go_sem, *]) rfl ⟨rfl, ((((Below.on (Below.on (hb _ _ _ _) hb1) hb2).setCell (by simp; omega) _).setCell (by simp; omega) _).setCell (by simp; omega) _).setCell (by simp; omega) _⟩
      · have e1 : belB (al, ah) (bl, bh) = true := decide_eq_true (by simp only; omega)
        have e2 : belA (al, ah) (bl, bh) = (al, min ah (bh - 1)) := if_pos (by simp only; omega)
        have e3 : belC (al, ah) (bl, bh) = (max bl (al + 1), bh) := if_pos (by simp only; omega)
        rw [e1, e2, e3]
        clear e1 e2 e3
        go_enter Tryd.func94, Tryd.ntmps94
        go_upto_region 3 with (first | (go_at_call_of 91 (Value.agg #[Value.int .i64 al, Value.int .i64 ah]); refine (HE.out _ _ _).mono ?_; rintro e w1 ⟨rfl, hb1⟩; have A0 := At.stay (At.more (At.more (At.more (At.new w (al, ah)) _) _) _) hb1; have A1 := At.stay (At.more (At.more (At.new1 w (bl, bh) _) _) _) hb1; have A2 := At.stay (At.more (At.new2 w (0, 0) _ _) _) hb1; have A3 := At.stay (At.new3 w (0, 0) _ _ _) hb1; have x0 := A0.c0; have x1 := A0.c1; have y0 := A1.c0; have y1 := A1.c1; have z0 := A2.c0; have z1 := A2.c1; have z2 := A2.f0; have z3 := A2.f1; have q0 := A3.c0; have q1 := A3.c1; have q2 := A3.f0; have q3 := A3.f1) | (go_at_call_of 91 (Value.agg #[Value.int .i64 bl, Value.int .i64 bh]); refine (HE.out _ _ _).mono ?_; rintro e w2 ⟨rfl, hb2⟩; have D0 := A0.stay hb2; have D1 := A1.stay hb2; have D2 := A2.stay hb2; have D3 := A3.stay hb2; have u0 := D0.c0; have u1 := D0.c1; have v0 := D1.c0; have v1 := D1.c1; have t0 := D2.c0; have t1 := D2.c1; have t2 := D2.f0; have t3 := D2.f1; have r0 := D3.c0; have r1 := D3.c1; have r2 := D3.f0; have r3 := D3.f1))
        have B := (Below.on (Below.on (hb _ _ _ _) hb1) hb2)
        clear x0 x1 y0 y1 z0 z1 z2 z3 q0 q1 q2 q3 A0 A1 A2 A3 D0 D1 D2 D3 hb1 hb2 hb HE
        have q1 : (if bh - 1 < ah then bh - 1 else ah) = min ah (bh - 1) := by omega
        have q2 : (if bl < al + 1 then al + 1 else bl) = max bl (al + 1) := by omega
        have Hq := Hid.mk' (And.intro q1 q2)
        clear q1 q2
        go_region
        rw [Hq.out.1, Hq.out.2]
        clear Hq
        go_wp2_with fail
        exact bodyPost_ret (v := .tuple #[sv (al, min ah (bh - 1)), sv (max bl (al + 1), bh), .bool true]) (by simp [results, Tryd.results94, go_sem, *]) rfl ⟨rfl, Below.drew ((((B.setCell (by simp; omega) _).setCell (by simp; omega) _).setCell (by simp; omega) _).setCell (by simp; omega) _)⟩
end Go.Proofs.YtfmkjdfidenfkaaDoor.S8
