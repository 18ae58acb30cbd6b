/- The document's own Do: single numbers. -/
import Derived.Test.YtbepapbfohfdkaaPart6
import Derived.Test.YtbepapbfohfdkaaPart3
namespace Go.Proofs.Ytbepapbfohfdkaa
open Go.RowKit Go.Lib Go.Sort

set_option maxRecDepth 100000 in
set_option maxHeartbeats 2000000 in
theorem rdo_s3 (al ah bl bh : Int) (h1 : al ≤ ah) (h2 : bl ≤ bh) (hs1 : al = ah) (hs2 : bl = bh) (w : World) : Calls Try.prog 21 #[.int .i64 3, sv (al, ah), sv (bl, bh)] w fun e w' => e = .returned (.tuple #[sv (wrap64 (al + bl), wrap64 (al + bl)), .bool true]) ∧ Below w.heap.size w w' := by
  have HEa : Hid (∀ w, Calls Try.prog 30 #[.agg #[.int .i64 al, .int .i64 ah]] w fun e w' => e = .returned (.bool false) ∧ Below w.heap.size w w') := noF h1
  have HEb : Hid (∀ w, Calls Try.prog 30 #[.agg #[.int .i64 bl, .int .i64 bh]] w fun e w' => e = .returned (.bool false) ∧ Below w.heap.size w w') := noF h2
  have hb := fun (o1 o2 o3 : Obj) => (Below.one (Below.one (Below.one (Below.refl _ w) o1) o2) o3 : Below w.heap.size w _)
  have HO := Hid.mk' (rop3 al bl)
  generalize wrap64 (al + bl) = n at *
  have Hhs1 := Hid.mk' hs1
  clear hs1
  have Hhs2 := Hid.mk' hs2
  clear hs2
  clear h1 h2
  go_enter Try.func21, Try.ntmps21
  go_upto_region 7 with (first | (go_at_call_of 30 (Value.agg #[Value.int .i64 al, Value.int .i64 ah]); refine (HEa.out _).mono ?_; rintro e w1 ⟨rfl, hb1⟩; have A0 := At.stay (At.more (At.more (At.new w (al, ah)) _) _) hb1; have A1 := At.stay (At.more (At.new1 w (bl, bh) _) _) hb1; have A2 := At.stay (At.new2 w (0, 0) _ _) hb1; have x0 := A0.c0; have x1 := A0.c1; have y0 := A1.c0; have y1 := A1.c1; have z0 := A2.c0; have z1 := A2.c1; have z2 := A2.f0; have z3 := A2.f1) | (go_at_call_of 30 (Value.agg #[Value.int .i64 bl, Value.int .i64 bh]); refine (HEb.out _).mono ?_; rintro e w2 ⟨rfl, hb2⟩; have D0 := A0.stay hb2; have D1 := A1.stay hb2; have D2 := A2.stay hb2; have u0 := D0.c0; have u1 := D0.c1; have v0 := D1.c0; have v1 := D1.c1; have t0 := D2.c0; have t1 := D2.c1; have t2 := D2.f0; have t3 := D2.f1))
  have BB := Below.on (Below.on (hb _ _ _) hb1) hb2
  clear x0 x1 y0 y1 z0 z1 z2 z3 t0 t1 t2 t3 A0 A1 A2 hb hb1 hb2 HEa HEb u0 u1
  go_cut [8] from 49 to 56 (fun t wx => t = .bool (bl == 0 && bh == 0) ∧ At wx w.heap.size (al, ah) ∧ At wx (w.heap.size + 1) (bl, bh) ∧ At wx (w.heap.size + 1 + 1) (0, 0) ∧ Below w.heap.size w wx)
  case first =>
    by_cases z : bl = 0
    · have zb : (bl == 0) = true := by simp [z]
      clear z
      go_wp2_with fail
      go_meet
      case rel => exact ⟨by simp [zb], D0, D1, D2, BB⟩
    · have zb := beq_no z
      clear z
      go_wp2_with fail
      go_meet
      case rel => exact ⟨by simp [zb], D0, D1, D2, BB⟩
  case rest =>
    clear v0 v1 D0 D1 D2 BB
    obtain ⟨rfl, D0, D1, D2, BB⟩ := hcut
    have u0 := D0.c0; have u1 := D0.c1; have v0 := D1.c0; have v1 := D1.c1
    go_upto_region 8 with fail
    go_cut [80] from 57 to 80 (fun t wx => t = .bool true ∧ At wx w.heap.size (al, ah) ∧ At wx (w.heap.size + 1) (bl, bh) ∧ At wx (w.heap.size + 1 + 1) (0, 0) ∧ Below w.heap.size w wx)
    case first =>
      have s1 : (al == ah) = true := by simp [Hhs1.out]
      have s2 : (bl == bh) = true := by simp [Hhs2.out]
      go_wp2_with fail
      go_meet
      case rel => exact ⟨by simp [*], D0, D1, D2, BB⟩
    case rest =>
      clear u0 u1 v0 v1 D0 D1 D2 BB
      obtain ⟨rfl, D0, D1, D2, BB⟩ := hcut
      have u0 := D0.c0; have u1 := D0.c1; have v0 := D1.c0; have v1 := D1.c1; have t0 := D2.c0; have t1 := D2.c1; have t2 := D2.f0; have t3 := D2.f1
      simp only at u0 u1 v0 v1 t0 t1
      go_wp2_with (go_at_call 26; refine (HO.out _).mono ?_; rintro e w5 ⟨rfl, hw5⟩; rw [hw5]; clear hw5)
      exact bodyPost_ret (v := .tuple #[sv (n, n), .bool true]) (by simp [results, Try.results21, go_sem, *]) rfl ⟨rfl, Below.put BB (by omega) _ _⟩
set_option maxRecDepth 100000 in
set_option maxHeartbeats 2000000 in
theorem rdo_s4 (al ah bl bh : Int) (h1 : al ≤ ah) (h2 : bl ≤ bh) (hs1 : al = ah) (hs2 : bl = bh) (w : World) : Calls Try.prog 21 #[.int .i64 4, sv (al, ah), sv (bl, bh)] w fun e w' => e = .returned (.tuple #[sv (wrap64 (al - bl), wrap64 (al - bl)), .bool true]) ∧ Below w.heap.size w w' := by
  have HEa : Hid (∀ w, Calls Try.prog 30 #[.agg #[.int .i64 al, .int .i64 ah]] w fun e w' => e = .returned (.bool false) ∧ Below w.heap.size w w') := noF h1
  have HEb : Hid (∀ w, Calls Try.prog 30 #[.agg #[.int .i64 bl, .int .i64 bh]] w fun e w' => e = .returned (.bool false) ∧ Below w.heap.size w w') := noF h2
  have hb := fun (o1 o2 o3 : Obj) => (Below.one (Below.one (Below.one (Below.refl _ w) o1) o2) o3 : Below w.heap.size w _)
  have HO := Hid.mk' (rop4 al bl)
  generalize wrap64 (al - bl) = n at *
  have Hhs1 := Hid.mk' hs1
  clear hs1
  have Hhs2 := Hid.mk' hs2
  clear hs2
  clear h1 h2
  go_enter Try.func21, Try.ntmps21
  go_upto_region 7 with (first | (go_at_call_of 30 (Value.agg #[Value.int .i64 al, Value.int .i64 ah]); refine (HEa.out _).mono ?_; rintro e w1 ⟨rfl, hb1⟩; have A0 := At.stay (At.more (At.more (At.new w (al, ah)) _) _) hb1; have A1 := At.stay (At.more (At.new1 w (bl, bh) _) _) hb1; have A2 := At.stay (At.new2 w (0, 0) _ _) hb1; have x0 := A0.c0; have x1 := A0.c1; have y0 := A1.c0; have y1 := A1.c1; have z0 := A2.c0; have z1 := A2.c1; have z2 := A2.f0; have z3 := A2.f1) | (go_at_call_of 30 (Value.agg #[Value.int .i64 bl, Value.int .i64 bh]); refine (HEb.out _).mono ?_; rintro e w2 ⟨rfl, hb2⟩; have D0 := A0.stay hb2; have D1 := A1.stay hb2; have D2 := A2.stay hb2; have u0 := D0.c0; have u1 := D0.c1; have v0 := D1.c0; have v1 := D1.c1; have t0 := D2.c0; have t1 := D2.c1; have t2 := D2.f0; have t3 := D2.f1))
  have BB := Below.on (Below.on (hb _ _ _) hb1) hb2
  clear x0 x1 y0 y1 z0 z1 z2 z3 t0 t1 t2 t3 A0 A1 A2 hb hb1 hb2 HEa HEb u0 u1
  go_cut [8] from 49 to 56 (fun t wx => t = .bool (bl == 0 && bh == 0) ∧ At wx w.heap.size (al, ah) ∧ At wx (w.heap.size + 1) (bl, bh) ∧ At wx (w.heap.size + 1 + 1) (0, 0) ∧ Below w.heap.size w wx)
  case first =>
    by_cases z : bl = 0
    · have zb : (bl == 0) = true := by simp [z]
      clear z
      go_wp2_with fail
      go_meet
      case rel => exact ⟨by simp [zb], D0, D1, D2, BB⟩
    · have zb := beq_no z
      clear z
      go_wp2_with fail
      go_meet
      case rel => exact ⟨by simp [zb], D0, D1, D2, BB⟩
  case rest =>
    clear v0 v1 D0 D1 D2 BB
    obtain ⟨rfl, D0, D1, D2, BB⟩ := hcut
    have u0 := D0.c0; have u1 := D0.c1; have v0 := D1.c0; have v1 := D1.c1
    go_upto_region 8 with fail
    go_cut [80] from 57 to 80 (fun t wx => t = .bool true ∧ At wx w.heap.size (al, ah) ∧ At wx (w.heap.size + 1) (bl, bh) ∧ At wx (w.heap.size + 1 + 1) (0, 0) ∧ Below w.heap.size w wx)
    case first =>
      have s1 : (al == ah) = true := by simp [Hhs1.out]
      have s2 : (bl == bh) = true := by simp [Hhs2.out]
      go_wp2_with fail
      go_meet
      case rel => exact ⟨by simp [*], D0, D1, D2, BB⟩
    case rest =>
      clear u0 u1 v0 v1 D0 D1 D2 BB
      obtain ⟨rfl, D0, D1, D2, BB⟩ := hcut
      have u0 := D0.c0; have u1 := D0.c1; have v0 := D1.c0; have v1 := D1.c1; have t0 := D2.c0; have t1 := D2.c1; have t2 := D2.f0; have t3 := D2.f1
      simp only at u0 u1 v0 v1 t0 t1
      go_wp2_with (go_at_call 26; refine (HO.out _).mono ?_; rintro e w5 ⟨rfl, hw5⟩; rw [hw5]; clear hw5)
      exact bodyPost_ret (v := .tuple #[sv (n, n), .bool true]) (by simp [results, Try.results21, go_sem, *]) rfl ⟨rfl, Below.put BB (by omega) _ _⟩
set_option maxRecDepth 100000 in
set_option maxHeartbeats 2000000 in
theorem rdo_s5 (al ah bl bh : Int) (h1 : al ≤ ah) (h2 : bl ≤ bh) (hs1 : al = ah) (hs2 : bl = bh) (w : World) : Calls Try.prog 21 #[.int .i64 5, sv (al, ah), sv (bl, bh)] w fun e w' => e = .returned (.tuple #[sv (wrap64 (al * bl), wrap64 (al * bl)), .bool true]) ∧ Below w.heap.size w w' := by
  have HEa : Hid (∀ w, Calls Try.prog 30 #[.agg #[.int .i64 al, .int .i64 ah]] w fun e w' => e = .returned (.bool false) ∧ Below w.heap.size w w') := noF h1
  have HEb : Hid (∀ w, Calls Try.prog 30 #[.agg #[.int .i64 bl, .int .i64 bh]] w fun e w' => e = .returned (.bool false) ∧ Below w.heap.size w w') := noF h2
  have hb := fun (o1 o2 o3 : Obj) => (Below.one (Below.one (Below.one (Below.refl _ w) o1) o2) o3 : Below w.heap.size w _)
  have HO := Hid.mk' (rop5 al bl)
  generalize wrap64 (al * bl) = n at *
  have Hhs1 := Hid.mk' hs1
  clear hs1
  have Hhs2 := Hid.mk' hs2
  clear hs2
  clear h1 h2
  go_enter Try.func21, Try.ntmps21
  go_upto_region 7 with (first | (go_at_call_of 30 (Value.agg #[Value.int .i64 al, Value.int .i64 ah]); refine (HEa.out _).mono ?_; rintro e w1 ⟨rfl, hb1⟩; have A0 := At.stay (At.more (At.more (At.new w (al, ah)) _) _) hb1; have A1 := At.stay (At.more (At.new1 w (bl, bh) _) _) hb1; have A2 := At.stay (At.new2 w (0, 0) _ _) hb1; have x0 := A0.c0; have x1 := A0.c1; have y0 := A1.c0; have y1 := A1.c1; have z0 := A2.c0; have z1 := A2.c1; have z2 := A2.f0; have z3 := A2.f1) | (go_at_call_of 30 (Value.agg #[Value.int .i64 bl, Value.int .i64 bh]); refine (HEb.out _).mono ?_; rintro e w2 ⟨rfl, hb2⟩; have D0 := A0.stay hb2; have D1 := A1.stay hb2; have D2 := A2.stay hb2; have u0 := D0.c0; have u1 := D0.c1; have v0 := D1.c0; have v1 := D1.c1; have t0 := D2.c0; have t1 := D2.c1; have t2 := D2.f0; have t3 := D2.f1))
  have BB := Below.on (Below.on (hb _ _ _) hb1) hb2
  clear x0 x1 y0 y1 z0 z1 z2 z3 t0 t1 t2 t3 A0 A1 A2 hb hb1 hb2 HEa HEb u0 u1
  go_cut [8] from 49 to 56 (fun t wx => t = .bool (bl == 0 && bh == 0) ∧ At wx w.heap.size (al, ah) ∧ At wx (w.heap.size + 1) (bl, bh) ∧ At wx (w.heap.size + 1 + 1) (0, 0) ∧ Below w.heap.size w wx)
  case first =>
    by_cases z : bl = 0
    · have zb : (bl == 0) = true := by simp [z]
      clear z
      go_wp2_with fail
      go_meet
      case rel => exact ⟨by simp [zb], D0, D1, D2, BB⟩
    · have zb := beq_no z
      clear z
      go_wp2_with fail
      go_meet
      case rel => exact ⟨by simp [zb], D0, D1, D2, BB⟩
  case rest =>
    clear v0 v1 D0 D1 D2 BB
    obtain ⟨rfl, D0, D1, D2, BB⟩ := hcut
    have u0 := D0.c0; have u1 := D0.c1; have v0 := D1.c0; have v1 := D1.c1
    go_upto_region 8 with fail
    go_cut [80] from 57 to 80 (fun t wx => t = .bool true ∧ At wx w.heap.size (al, ah) ∧ At wx (w.heap.size + 1) (bl, bh) ∧ At wx (w.heap.size + 1 + 1) (0, 0) ∧ Below w.heap.size w wx)
    case first =>
      have s1 : (al == ah) = true := by simp [Hhs1.out]
      have s2 : (bl == bh) = true := by simp [Hhs2.out]
      go_wp2_with fail
      go_meet
      case rel => exact ⟨by simp [*], D0, D1, D2, BB⟩
    case rest =>
      clear u0 u1 v0 v1 D0 D1 D2 BB
      obtain ⟨rfl, D0, D1, D2, BB⟩ := hcut
      have u0 := D0.c0; have u1 := D0.c1; have v0 := D1.c0; have v1 := D1.c1; have t0 := D2.c0; have t1 := D2.c1; have t2 := D2.f0; have t3 := D2.f1
      simp only at u0 u1 v0 v1 t0 t1
      go_wp2_with (go_at_call 26; refine (HO.out _).mono ?_; rintro e w5 ⟨rfl, hw5⟩; rw [hw5]; clear hw5)
      exact bodyPost_ret (v := .tuple #[sv (n, n), .bool true]) (by simp [results, Try.results21, go_sem, *]) rfl ⟨rfl, Below.put BB (by omega) _ _⟩
end Go.Proofs.Ytbepapbfohfdkaa

/- The document's own sums and differences. -/
namespace Go.Proofs.Ytbepapbfohfdkaa
open Go.RowKit Go.Lib Go.Sort

/-- A number as it is; what is none is 0. -/
def fz (n : Int) : Int := if Nm n then n else 0
theorem fz_yes {n : Int} (h : Nm n) : fz n = n ∧ fitB n = true := ⟨if_pos h, decide_eq_true h⟩
theorem fz_no {n : Int} (h : ¬ Nm n) : fz n = 0 ∧ fitB n = false := ⟨if_neg h, decide_eq_false h⟩
set_option maxHeartbeats 1000000 in
theorem rsum_any (x y : Int) (hx : Nm x) (hy : Nm y) (w : World) : Calls Try.prog 40 #[.int .i64 x, .int .i64 y] w fun e w' => e = .returned (.tuple #[.int .i64 (fz (x + y)), .bool (fitB (x + y))]) ∧ w' = w := by
  unfold Nm at hx hy
  have hu : undef = Value.tuple #[] := rfl
  rcases (show (0 < y ∧ 9223372036854775807 - y < x) ∨ (0 < y ∧ x ≤ 9223372036854775807 - y) ∨ (y < 0 ∧ x < -9223372036854775808 - y) ∨ (y < 0 ∧ -9223372036854775808 - y ≤ x) ∨ (0 ≤ y ∧ y ≤ 0) by omega) with ⟨h0, h1⟩ | ⟨h0, h1⟩ | ⟨h0, h1⟩ | ⟨h0, h1⟩ | ⟨h0, h1⟩
  · obtain ⟨e1, e2⟩ := fz_no (show ¬ Nm (x + y) by unfold Nm; omega)
    rw [e1, e2]
    clear e1 e2
    go_enter Try.func40, Try.ntmps40
    go_wp2
    go_ret2
    exact ⟨rfl, rfl⟩
  · obtain ⟨e1, e2⟩ := fz_yes (show Nm (x + y) by unfold Nm; omega)
    rw [e1, e2]
    clear e1 e2
    go_enter Try.func40, Try.ntmps40
    go_wp2
    go_ret2
    exact ⟨rfl, rfl⟩
  · obtain ⟨e1, e2⟩ := fz_no (show ¬ Nm (x + y) by unfold Nm; omega)
    rw [e1, e2]
    clear e1 e2
    go_enter Try.func40, Try.ntmps40
    go_wp2
    go_ret2
    exact ⟨rfl, rfl⟩
  · obtain ⟨e1, e2⟩ := fz_yes (show Nm (x + y) by unfold Nm; omega)
    rw [e1, e2]
    clear e1 e2
    go_enter Try.func40, Try.ntmps40
    go_wp2
    go_ret2
    exact ⟨rfl, rfl⟩
  · obtain ⟨e1, e2⟩ := fz_yes (show Nm (x + y) by unfold Nm; omega)
    rw [e1, e2]
    clear e1 e2
    go_enter Try.func40, Try.ntmps40
    go_wp2
    go_ret2
    exact ⟨rfl, rfl⟩
set_option maxHeartbeats 1000000 in
theorem rless_any (x y : Int) (hx : Nm x) (hy : Nm y) (w : World) : Calls Try.prog 42 #[.int .i64 x, .int .i64 y] w fun e w' => e = .returned (.tuple #[.int .i64 (fz (x - y)), .bool (fitB (x - y))]) ∧ w' = w := by
  unfold Nm at hx hy
  have hu : undef = Value.tuple #[] := rfl
  rcases (show (y < 0 ∧ 9223372036854775807 + y < x) ∨ (y < 0 ∧ x ≤ 9223372036854775807 + y) ∨ (0 < y ∧ x < -9223372036854775808 + y) ∨ (0 < y ∧ -9223372036854775808 + y ≤ x) ∨ (0 ≤ y ∧ y ≤ 0) by omega) with ⟨h0, h1⟩ | ⟨h0, h1⟩ | ⟨h0, h1⟩ | ⟨h0, h1⟩ | ⟨h0, h1⟩
  · obtain ⟨e1, e2⟩ := fz_no (show ¬ Nm (x - y) by unfold Nm; omega)
    rw [e1, e2]
    clear e1 e2
    go_enter Try.func42, Try.ntmps42
    go_wp2
    go_ret2
    exact ⟨rfl, rfl⟩
  · obtain ⟨e1, e2⟩ := fz_yes (show Nm (x - y) by unfold Nm; omega)
    rw [e1, e2]
    clear e1 e2
    go_enter Try.func42, Try.ntmps42
    go_wp2
    go_ret2
    exact ⟨rfl, rfl⟩
  · obtain ⟨e1, e2⟩ := fz_no (show ¬ Nm (x - y) by unfold Nm; omega)
    rw [e1, e2]
    clear e1 e2
    go_enter Try.func42, Try.ntmps42
    go_wp2
    go_ret2
    exact ⟨rfl, rfl⟩
  · obtain ⟨e1, e2⟩ := fz_yes (show Nm (x - y) by unfold Nm; omega)
    rw [e1, e2]
    clear e1 e2
    go_enter Try.func42, Try.ntmps42
    go_wp2
    go_ret2
    exact ⟨rfl, rfl⟩
  · obtain ⟨e1, e2⟩ := fz_yes (show Nm (x - y) by unfold Nm; omega)
    rw [e1, e2]
    clear e1 e2
    go_enter Try.func42, Try.ntmps42
    go_wp2
    go_ret2
    exact ⟨rfl, rfl⟩
end Go.Proofs.Ytbepapbfohfdkaa

/- The document's own products. -/
namespace Go.Proofs.Ytbepapbfohfdkaa
open Go.RowKit Go.Lib Go.Sort

/-- What the document's Product hands out. -/
def pz (x y : Int) : Int := if x = 0 ∨ y = 0 then 0 else if x = -1 then fz (0 - y) else if y = -1 then fz (0 - x) else wrap64 (x * y)
theorem pz_fit {x y : Int} (h : Nm (x * y)) : pz x y = x * y := by
  unfold pz
  split
  · next e => rcases e with rfl | rfl <;> simp
  · split
    · next e => subst e; rw [show -1 * y = 0 - y by omega] at *; exact if_pos h
    · split
      · next e => subst e; rw [show x * -1 = 0 - x by omega] at *; exact if_pos h
      · exact wr_id h
theorem prod_yes {x y : Int} (hx : x ≠ 0) (hy : y ≠ 0) (h : Nm (x * y)) : (wrap64 (x * y)).tdiv y = x ∧ (wrap64 (x * y)).tdiv x = y := by
  rw [show wrap64 (x * y) = x * y from wr_id h]
  exact ⟨Int.mul_tdiv_cancel x hy, Int.mul_tdiv_cancel_left y hx⟩
theorem prod_no {x y : Int} (hy : y ≠ 0) (hn : Nm y) (h : ¬ Nm (x * y)) : (wrap64 (x * y)).tdiv y ≠ x := by
  intro e
  obtain ⟨k, hk⟩ := wr_off (x * y)
  have h1 := Int.mul_tdiv_add_tmod (wrap64 (x * y)) y
  rw [e] at h1
  have hd := (show 0 ≤ dis y ∧ dis y ≤ 9223372036854775808 by unfold dis; unfold Nm at hn; split <;> omega)
  obtain ⟨p, q⟩ := tm_in (x := wrap64 (x * y)) hy
  have hw : Nm (wrap64 (x * y)) := wr_nm _
  have hk' : wrap64 (x * y) = x * y + k * 18446744073709551616 := hk
  rw [Int.mul_comm y x] at h1
  refine h ?_
  have : x * y = wrap64 (x * y) := by
    generalize wrap64 (x * y) = W at *
    generalize W.tmod y = r at *
    generalize x * y = m at *
    rcases Int.le_total 0 W with h0 | h0
    · have := p h0; omega
    · have := q h0; omega
  rw [this]
  exact hw
theorem other1 (x y : Int) (h : x = -1) (w : World) : Calls Try.prog 54 #[.int .i64 x, .int .i64 y] w fun e w' => e = .returned (.int .i64 y) ∧ w' = w := by
  subst h
  go_enter Try.func54, Try.ntmps54
  go_wp2
  go_ret
  exact ⟨rfl, rfl⟩
theorem other2 (x y : Int) (h : x ≠ -1) (w : World) : Calls Try.prog 54 #[.int .i64 x, .int .i64 y] w fun e w' => e = .returned (.int .i64 x) ∧ w' = w := by
  have h1 := beq_no h
  go_enter Try.func54, Try.ntmps54
  go_wp2
  go_ret
  exact ⟨rfl, rfl⟩
set_option maxHeartbeats 1000000 in
theorem rproduct_any (x y : Int) (hx : Nm x) (hy : Nm y) (w : World) : Calls Try.prog 43 #[.int .i64 x, .int .i64 y] w fun e w' => e = .returned (.tuple #[.int .i64 (pz x y), .bool (fitB (x * y))]) ∧ Below w.heap.size w w' := by
  have hu : undef = Value.tuple #[] := rfl
  by_cases x0 : x = 0
  · subst x0
    have e1 : pz 0 y = 0 := if_pos (.inl rfl)
    have e2 : fitB (0 * y) = true := by rw [Int.zero_mul]; rfl
    rw [e1, e2]
    clear e1 e2
    go_enter Try.func43, Try.ntmps43
    go_wp2
    go_ret2
    exact ⟨rfl, Below.refl _ _⟩
  have b1 := beq_no x0
  by_cases y0 : y = 0
  · subst y0
    have e1 : pz x 0 = 0 := if_pos (.inr rfl)
    have e2 : fitB (x * 0) = true := by rw [Int.mul_zero]; rfl
    rw [e1, e2]
    clear e1 e2
    go_enter Try.func43, Try.ntmps43
    go_wp2
    go_ret2
    exact ⟨rfl, Below.refl _ _⟩
  have b2 := beq_no y0
  by_cases x1 : x = -1
  · subst x1
    have HO := Hid.mk' (other1 (-1) y rfl)
    have HL := Hid.mk' (rless_any 0 y (by unfold Nm; omega) hy)
    have e1 : pz (-1) y = fz (0 - y) := by unfold pz; rw [if_neg (by omega), if_pos rfl]
    have e2 : fitB (-1 * y) = fitB (0 - y) := by rw [show -1 * y = 0 - y by omega]
    rw [e1, e2]
    clear e1 e2
    generalize fz (0 - y) = v at *
    generalize fitB (0 - y) = f at *
    go_enter Try.func43, Try.ntmps43
    go_wp2_with (first | (go_at_call 54; refine (HO.out _).mono ?_; rintro e w5 ⟨rfl, hw5⟩; rw [hw5]; clear hw5) | (go_at_call 42; refine (HL.out _).mono ?_; rintro e w5 ⟨rfl, hw5⟩; rw [hw5]; clear hw5))
    go_ret2
    exact ⟨rfl, Below.refl _ _⟩
  have b3 := beq_no x1
  by_cases y1 : y = -1
  · subst y1
    have HO := Hid.mk' (other2 x (-1) x1)
    have HL := Hid.mk' (rless_any 0 x (by unfold Nm; omega) hx)
    have e1 : pz x (-1) = fz (0 - x) := by unfold pz; rw [if_neg (by omega), if_neg x1, if_pos rfl]
    have e2 : fitB (x * -1) = fitB (0 - x) := by rw [show x * -1 = 0 - x by omega]
    rw [e1, e2]
    clear e1 e2
    generalize fz (0 - x) = v at *
    generalize fitB (0 - x) = f at *
    go_enter Try.func43, Try.ntmps43
    go_wp2_with (first | (go_at_call 54; refine (HO.out _).mono ?_; rintro e w5 ⟨rfl, hw5⟩; rw [hw5]; clear hw5) | (go_at_call 42; refine (HL.out _).mono ?_; rintro e w5 ⟨rfl, hw5⟩; rw [hw5]; clear hw5))
    go_ret2
    exact ⟨rfl, Below.refl _ _⟩
  have b4 := beq_no y1
  have e1 : pz x y = wrap64 (x * y) := by unfold pz; rw [if_neg (by omega), if_neg x1, if_neg y1]
  rw [e1]
  clear e1
  have hw : Nm (wrap64 (x * y)) := wr_nm _
  have t1 : wrap64 ((wrap64 (x * y)).tdiv y) = (wrap64 (x * y)).tdiv y := wr_id (td_nm hw y0 (fun h => y1 h.2))
  have t2 : wrap64 ((wrap64 (x * y)).tdiv x) = (wrap64 (x * y)).tdiv x := wr_id (td_nm hw x0 (fun h => x1 h.2))
  by_cases hf : Nm (x * y)
  · rw [show fitB (x * y) = true from decide_eq_true hf]
    obtain ⟨d1, d2⟩ := prod_yes x0 y0 hf
    have wx : wrap64 x = x := wr_id hx
    have wy : wrap64 y = y := wr_id hy
    clear hf hx hy hw t1 t2
    go_enter Try.func43, Try.ntmps43
    go_upto_region 6 with fail
    refine wp_region_quiet_below (by kernel_rfl) (by kernel_rfl) ?_
    repeat (go_big_quiet_step (fail))
    refine wpQuiet_nil ?_
    intro _ hw'
    obtain ⟨⟨dq, osq⟩, hw''⟩ := hw'
    subst hw''
    have Bq := below_regrown w dq osq
    simp only
    generalize grow (redrawn w dq) osq = Wq at *
    go_wp2_with fail
    go_ret2
    exact ⟨rfl, Bq⟩
  · rw [show fitB (x * y) = false from decide_eq_false hf]
    have d1 := beq_no (prod_no y0 hy hf)
    clear hf hx hy hw t2
    go_enter Try.func43, Try.ntmps43
    go_upto_region 6 with fail
    refine wp_region_quiet_below (by kernel_rfl) (by kernel_rfl) ?_
    repeat (go_big_quiet_step (fail))
    refine wpQuiet_nil ?_
    intro _ hw'
    obtain ⟨⟨dq, osq⟩, hw''⟩ := hw'
    subst hw''
    have Bq := below_regrown w dq osq
    simp only
    generalize grow (redrawn w dq) osq = Wq at *
    go_wp2_with fail
    go_ret2
    exact ⟨rfl, Bq⟩
end Go.Proofs.Ytbepapbfohfdkaa
