/- The document's own Do: quotients and rests. -/
import Derived.Test.YtbepapbfohfdkaaPart9
import Derived.Test.YtbepapbfohfdkaaPart10
import Derived.Test.YtbepapbfohfdkaaPart3
import Derived.Test.YtbepapbfohfdkaaPart6
namespace Go.Proofs.Ytbepapbfohfdkaa
open Go.RowKit Go.Lib Go.Sort

set_option maxRecDepth 100000 in
set_option maxHeartbeats 2000000 in
theorem rdo_n6 (al ah bl bh : Int) (h1 : al ≤ ah) (h2 : bl ≤ bh) (ha : Sp.Ok (al, ah)) (hz : (bl, bh) ≠ (0, 0)) (w : World) : Calls Try.prog 21 #[.int .i64 6, sv (al, ah), sv (bl, bh)] w fun e w' => e = .returned (.tuple #[sv (quoS (al, ah) (bl, bh)), .bool true]) ∧ Below w.heap.size w w' := by
  have HEa : Hid (∀ w, Calls Try.prog 30 #[.agg #[.int .i64 al, .int .i64 ah]] w fun e w' => e = .returned (.bool false) ∧ Below w.heap.size w w') := noF h1
  have HEb : Hid (∀ w, Calls Try.prog 30 #[.agg #[.int .i64 bl, .int .i64 bh]] w fun e w' => e = .returned (.bool false) ∧ Below w.heap.size w w') := noF h2
  have hb := fun (o1 o2 o3 : Obj) => (Below.one (Below.one (Below.one (Below.refl _ w) o1) o2) o3 : Below w.heap.size w _)
  have HC := Hid.mk' fun w => rquotients_any (al, ah) (bl, bh) ha h1 h2 hz w
  have HZ : Hid ((bl == 0 && bh == 0) = false) := by show _ = _; rw [eq_and, decide_eq_false hz]
  generalize quoS (al, ah) (bl, bh) = R at *
  obtain ⟨R1, R2⟩ := R
  clear hz ha
  clear h1 h2
  go_enter Try.func21, Try.ntmps21
  go_upto_region 7 with (first | (go_at_call_of 30 (Value.agg #[Value.int .i64 al, Value.int .i64 ah]); refine (HEa.out _).mono ?_; rintro e w1 ⟨rfl, hb1⟩; have A0 := At.stay (At.more (At.more (At.new w (al, ah)) _) _) hb1; have A1 := At.stay (At.more (At.new1 w (bl, bh) _) _) hb1; have A2 := At.stay (At.new2 w (0, 0) _ _) hb1; have x0 := A0.c0; have x1 := A0.c1; have y0 := A1.c0; have y1 := A1.c1; have z0 := A2.c0; have z1 := A2.c1; have z2 := A2.f0; have z3 := A2.f1) | (go_at_call_of 30 (Value.agg #[Value.int .i64 bl, Value.int .i64 bh]); refine (HEb.out _).mono ?_; rintro e w2 ⟨rfl, hb2⟩; have D0 := A0.stay hb2; have D1 := A1.stay hb2; have D2 := A2.stay hb2; have u0 := D0.c0; have u1 := D0.c1; have v0 := D1.c0; have v1 := D1.c1; have t0 := D2.c0; have t1 := D2.c1; have t2 := D2.f0; have t3 := D2.f1))
  have BB := Below.on (Below.on (hb _ _ _) hb1) hb2
  clear x0 x1 y0 y1 z0 z1 z2 z3 t0 t1 t2 t3 A0 A1 A2 hb hb1 hb2 HEa HEb u0 u1
  go_cut [8] from 49 to 56 (fun t wx => t = .bool (bl == 0 && bh == 0) ∧ At wx w.heap.size (al, ah) ∧ At wx (w.heap.size + 1) (bl, bh) ∧ At wx (w.heap.size + 1 + 1) (0, 0) ∧ Below w.heap.size w wx)
  case first =>
    by_cases z : bl = 0
    · have zb : (bl == 0) = true := by simp [z]
      clear z
      go_wp2_with fail
      go_meet
      case rel => exact ⟨by simp [zb], D0, D1, D2, BB⟩
    · have zb := beq_no z
      clear z
      go_wp2_with fail
      go_meet
      case rel => exact ⟨by simp [zb], D0, D1, D2, BB⟩
  case rest =>
    clear v0 v1 D0 D1 D2 BB
    obtain ⟨rfl, D0, D1, D2, BB⟩ := hcut
    rw [HZ.out]
    clear HZ
    have u0 := D0.c0; have u1 := D0.c1; have v0 := D1.c0; have v1 := D1.c1
    go_upto_region 8 with fail
    go_cut [80] from 57 to 80 (fun t wx => t = .bool false ∧ At wx w.heap.size (al, ah) ∧ At wx (w.heap.size + 1) (bl, bh) ∧ At wx (w.heap.size + 1 + 1) (0, 0) ∧ Below w.heap.size w wx)
    case first =>
      by_cases s1 : al = ah
      · have s1' : (al == ah) = true := by simp [s1]
        by_cases s2 : bl = bh
        · have s2' : (bl == bh) = true := by simp [s2]
          clear s1 s2
          go_wp2_with fail
          go_meet
          case rel => exact ⟨by simp [*], D0, D1, D2, BB⟩
        · have s2' := beq_no s2
          clear s1 s2
          go_wp2_with fail
          go_meet
          case rel => exact ⟨by simp [*], D0, D1, D2, BB⟩
      · have s1' := beq_no s1
        clear s1
        go_wp2_with fail
        go_meet
        case rel => exact ⟨by simp [*], D0, D1, D2, BB⟩
    case rest =>
      clear u0 u1 v0 v1 D0 D1 D2 BB
      obtain ⟨rfl, D0, D1, D2, BB⟩ := hcut
      have u0 := D0.c0; have u1 := D0.c1; have v0 := D1.c0; have v1 := D1.c1; have t0 := D2.c0; have t1 := D2.c1; have t2 := D2.f0; have t3 := D2.f1
      simp only at u0 u1 v0 v1 t0 t1
      go_wp2_with (go_at_call 44; refine (HC.out _).mono ?_; rintro e w6 ⟨rfl, hb6⟩; have E2 := D2.stay hb6; have s0 := E2.c0; have s1 := E2.c1; have s2 := E2.f0; have s3 := E2.f1)
      exact bodyPost_ret (v := .tuple #[sv (R1, R2), .bool true]) (by simp [results, Try.results21, go_sem, *]) rfl ⟨rfl, Below.put (Below.on BB hb6) (by omega) _ _⟩
set_option maxRecDepth 100000 in
set_option maxHeartbeats 2000000 in
theorem rdo_z6 (al ah bl bh : Int) (h1 : al ≤ ah) (h2 : bl ≤ bh) (hz : (bl, bh) = (0, 0)) (w : World) : Calls Try.prog 21 #[.int .i64 6, sv (al, ah), sv (bl, bh)] w fun e w' => e = .returned (.tuple #[sv (0, 0), .bool false]) ∧ Below w.heap.size w w' := by
  have HEa : Hid (∀ w, Calls Try.prog 30 #[.agg #[.int .i64 al, .int .i64 ah]] w fun e w' => e = .returned (.bool false) ∧ Below w.heap.size w w') := noF h1
  have HEb : Hid (∀ w, Calls Try.prog 30 #[.agg #[.int .i64 bl, .int .i64 bh]] w fun e w' => e = .returned (.bool false) ∧ Below w.heap.size w w') := noF h2
  have hb := fun (o1 o2 o3 : Obj) => (Below.one (Below.one (Below.one (Below.refl _ w) o1) o2) o3 : Below w.heap.size w _)
  have HZ : Hid ((bl == 0 && bh == 0) = true) := by show _ = _; simp only [Prod.mk.injEq] at hz; simp [hz.1, hz.2]
  clear hz
  clear h1 h2
  go_enter Try.func21, Try.ntmps21
  go_upto_region 7 with (first | (go_at_call_of 30 (Value.agg #[Value.int .i64 al, Value.int .i64 ah]); refine (HEa.out _).mono ?_; rintro e w1 ⟨rfl, hb1⟩; have A0 := At.stay (At.more (At.more (At.new w (al, ah)) _) _) hb1; have A1 := At.stay (At.more (At.new1 w (bl, bh) _) _) hb1; have A2 := At.stay (At.new2 w (0, 0) _ _) hb1; have x0 := A0.c0; have x1 := A0.c1; have y0 := A1.c0; have y1 := A1.c1; have z0 := A2.c0; have z1 := A2.c1; have z2 := A2.f0; have z3 := A2.f1) | (go_at_call_of 30 (Value.agg #[Value.int .i64 bl, Value.int .i64 bh]); refine (HEb.out _).mono ?_; rintro e w2 ⟨rfl, hb2⟩; have D0 := A0.stay hb2; have D1 := A1.stay hb2; have D2 := A2.stay hb2; have u0 := D0.c0; have u1 := D0.c1; have v0 := D1.c0; have v1 := D1.c1; have t0 := D2.c0; have t1 := D2.c1; have t2 := D2.f0; have t3 := D2.f1))
  have BB := Below.on (Below.on (hb _ _ _) hb1) hb2
  clear x0 x1 y0 y1 z0 z1 z2 z3 t0 t1 t2 t3 A0 A1 A2 hb hb1 hb2 HEa HEb u0 u1
  go_cut [8] from 49 to 56 (fun t wx => t = .bool (bl == 0 && bh == 0) ∧ At wx w.heap.size (al, ah) ∧ At wx (w.heap.size + 1) (bl, bh) ∧ At wx (w.heap.size + 1 + 1) (0, 0) ∧ Below w.heap.size w wx)
  case first =>
    by_cases z : bl = 0
    · have zb : (bl == 0) = true := by simp [z]
      clear z
      go_wp2_with fail
      go_meet
      case rel => exact ⟨by simp [zb], D0, D1, D2, BB⟩
    · have zb := beq_no z
      clear z
      go_wp2_with fail
      go_meet
      case rel => exact ⟨by simp [zb], D0, D1, D2, BB⟩
  case rest =>
    clear v0 v1 D0 D1 D2 BB
    obtain ⟨rfl, D0, D1, D2, BB⟩ := hcut
    rw [HZ.out]
    clear HZ
    have u0 := D0.c0; have u1 := D0.c1; have v0 := D1.c0; have v1 := D1.c1
    go_upto_region 8 with fail
    go_cut [80] from 57 to 80 (fun t wx => t = .bool false ∧ At wx w.heap.size (al, ah) ∧ At wx (w.heap.size + 1) (bl, bh) ∧ At wx (w.heap.size + 1 + 1) (0, 0) ∧ Below w.heap.size w wx)
    case first =>
      by_cases s1 : al = ah
      · have s1' : (al == ah) = true := by simp [s1]
        by_cases s2 : bl = bh
        · have s2' : (bl == bh) = true := by simp [s2]
          clear s1 s2
          go_wp2_with fail
          go_meet
          case rel => exact ⟨by simp [*], D0, D1, D2, BB⟩
        · have s2' := beq_no s2
          clear s1 s2
          go_wp2_with fail
          go_meet
          case rel => exact ⟨by simp [*], D0, D1, D2, BB⟩
      · have s1' := beq_no s1
        clear s1
        go_wp2_with fail
        go_meet
        case rel => exact ⟨by simp [*], D0, D1, D2, BB⟩
    case rest =>
      clear u0 u1 v0 v1 D0 D1 D2 BB
      obtain ⟨rfl, D0, D1, D2, BB⟩ := hcut
      have u0 := D0.c0; have u1 := D0.c1; have v0 := D1.c0; have v1 := D1.c1; have t0 := D2.c0; have t1 := D2.c1; have t2 := D2.f0; have t3 := D2.f1
      simp only at u0 u1 v0 v1 t0 t1
      go_wp2_with fail
      exact bodyPost_ret (v := .tuple #[sv (0, 0), .bool false]) (by simp [results, Try.results21, go_sem, *]) rfl ⟨rfl, Below.put BB (by omega) _ _⟩
set_option maxRecDepth 100000 in
set_option maxHeartbeats 2000000 in
theorem rdo_n7 (al ah bl bh : Int) (h1 : al ≤ ah) (h2 : bl ≤ bh) (ha : Sp.Ok (al, ah)) (hb' : Sp.Ok (bl, bh)) (hz : (bl, bh) ≠ (0, 0)) (w : World) : Calls Try.prog 21 #[.int .i64 7, sv (al, ah), sv (bl, bh)] w fun e w' => e = .returned (.tuple #[sv (remS (al, ah) (bl, bh)), .bool true]) ∧ Below w.heap.size w w' := by
  have HEa : Hid (∀ w, Calls Try.prog 30 #[.agg #[.int .i64 al, .int .i64 ah]] w fun e w' => e = .returned (.bool false) ∧ Below w.heap.size w w') := noF h1
  have HEb : Hid (∀ w, Calls Try.prog 30 #[.agg #[.int .i64 bl, .int .i64 bh]] w fun e w' => e = .returned (.bool false) ∧ Below w.heap.size w w') := noF h2
  have hb := fun (o1 o2 o3 : Obj) => (Below.one (Below.one (Below.one (Below.refl _ w) o1) o2) o3 : Below w.heap.size w _)
  have HC := Hid.mk' fun w => rrests_any (al, ah) (bl, bh) ha hb' h2 hz w
  have HZ : Hid ((bl == 0 && bh == 0) = false) := by show _ = _; rw [eq_and, decide_eq_false hz]
  generalize remS (al, ah) (bl, bh) = R at *
  obtain ⟨R1, R2⟩ := R
  clear hz ha hb'
  clear h1 h2
  go_enter Try.func21, Try.ntmps21
  go_upto_region 7 with (first | (go_at_call_of 30 (Value.agg #[Value.int .i64 al, Value.int .i64 ah]); refine (HEa.out _).mono ?_; rintro e w1 ⟨rfl, hb1⟩; have A0 := At.stay (At.more (At.more (At.new w (al, ah)) _) _) hb1; have A1 := At.stay (At.more (At.new1 w (bl, bh) _) _) hb1; have A2 := At.stay (At.new2 w (0, 0) _ _) hb1; have x0 := A0.c0; have x1 := A0.c1; have y0 := A1.c0; have y1 := A1.c1; have z0 := A2.c0; have z1 := A2.c1; have z2 := A2.f0; have z3 := A2.f1) | (go_at_call_of 30 (Value.agg #[Value.int .i64 bl, Value.int .i64 bh]); refine (HEb.out _).mono ?_; rintro e w2 ⟨rfl, hb2⟩; have D0 := A0.stay hb2; have D1 := A1.stay hb2; have D2 := A2.stay hb2; have u0 := D0.c0; have u1 := D0.c1; have v0 := D1.c0; have v1 := D1.c1; have t0 := D2.c0; have t1 := D2.c1; have t2 := D2.f0; have t3 := D2.f1))
  have BB := Below.on (Below.on (hb _ _ _) hb1) hb2
  clear x0 x1 y0 y1 z0 z1 z2 z3 t0 t1 t2 t3 A0 A1 A2 hb hb1 hb2 HEa HEb u0 u1
  go_cut [8] from 49 to 56 (fun t wx => t = .bool (bl == 0 && bh == 0) ∧ At wx w.heap.size (al, ah) ∧ At wx (w.heap.size + 1) (bl, bh) ∧ At wx (w.heap.size + 1 + 1) (0, 0) ∧ Below w.heap.size w wx)
  case first =>
    by_cases z : bl = 0
    · have zb : (bl == 0) = true := by simp [z]
      clear z
      go_wp2_with fail
      go_meet
      case rel => exact ⟨by simp [zb], D0, D1, D2, BB⟩
    · have zb := beq_no z
      clear z
      go_wp2_with fail
      go_meet
      case rel => exact ⟨by simp [zb], D0, D1, D2, BB⟩
  case rest =>
    clear v0 v1 D0 D1 D2 BB
    obtain ⟨rfl, D0, D1, D2, BB⟩ := hcut
    rw [HZ.out]
    clear HZ
    have u0 := D0.c0; have u1 := D0.c1; have v0 := D1.c0; have v1 := D1.c1
    go_upto_region 8 with fail
    go_cut [80] from 57 to 80 (fun t wx => t = .bool false ∧ At wx w.heap.size (al, ah) ∧ At wx (w.heap.size + 1) (bl, bh) ∧ At wx (w.heap.size + 1 + 1) (0, 0) ∧ Below w.heap.size w wx)
    case first =>
      by_cases s1 : al = ah
      · have s1' : (al == ah) = true := by simp [s1]
        by_cases s2 : bl = bh
        · have s2' : (bl == bh) = true := by simp [s2]
          clear s1 s2
          go_wp2_with fail
          go_meet
          case rel => exact ⟨by simp [*], D0, D1, D2, BB⟩
        · have s2' := beq_no s2
          clear s1 s2
          go_wp2_with fail
          go_meet
          case rel => exact ⟨by simp [*], D0, D1, D2, BB⟩
      · have s1' := beq_no s1
        clear s1
        go_wp2_with fail
        go_meet
        case rel => exact ⟨by simp [*], D0, D1, D2, BB⟩
    case rest =>
      clear u0 u1 v0 v1 D0 D1 D2 BB
      obtain ⟨rfl, D0, D1, D2, BB⟩ := hcut
      have u0 := D0.c0; have u1 := D0.c1; have v0 := D1.c0; have v1 := D1.c1; have t0 := D2.c0; have t1 := D2.c1; have t2 := D2.f0; have t3 := D2.f1
      simp only at u0 u1 v0 v1 t0 t1
      go_wp2_with (go_at_call 45; refine (HC.out _).mono ?_; rintro e w6 ⟨rfl, hb6⟩; have E2 := D2.stay hb6; have s0 := E2.c0; have s1 := E2.c1; have s2 := E2.f0; have s3 := E2.f1)
      exact bodyPost_ret (v := .tuple #[sv (R1, R2), .bool true]) (by simp [results, Try.results21, go_sem, *]) rfl ⟨rfl, Below.put (Below.on BB hb6) (by omega) _ _⟩
set_option maxRecDepth 100000 in
set_option maxHeartbeats 2000000 in
theorem rdo_z7 (al ah bl bh : Int) (h1 : al ≤ ah) (h2 : bl ≤ bh) (hz : (bl, bh) = (0, 0)) (w : World) : Calls Try.prog 21 #[.int .i64 7, sv (al, ah), sv (bl, bh)] w fun e w' => e = .returned (.tuple #[sv (0, 0), .bool false]) ∧ Below w.heap.size w w' := by
  have HEa : Hid (∀ w, Calls Try.prog 30 #[.agg #[.int .i64 al, .int .i64 ah]] w fun e w' => e = .returned (.bool false) ∧ Below w.heap.size w w') := noF h1
  have HEb : Hid (∀ w, Calls Try.prog 30 #[.agg #[.int .i64 bl, .int .i64 bh]] w fun e w' => e = .returned (.bool false) ∧ Below w.heap.size w w') := noF h2
  have hb := fun (o1 o2 o3 : Obj) => (Below.one (Below.one (Below.one (Below.refl _ w) o1) o2) o3 : Below w.heap.size w _)
  have HZ : Hid ((bl == 0 && bh == 0) = true) := by show _ = _; simp only [Prod.mk.injEq] at hz; simp [hz.1, hz.2]
  clear hz
  clear h1 h2
  go_enter Try.func21, Try.ntmps21
  go_upto_region 7 with (first | (go_at_call_of 30 (Value.agg #[Value.int .i64 al, Value.int .i64 ah]); refine (HEa.out _).mono ?_; rintro e w1 ⟨rfl, hb1⟩; have A0 := At.stay (At.more (At.more (At.new w (al, ah)) _) _) hb1; have A1 := At.stay (At.more (At.new1 w (bl, bh) _) _) hb1; have A2 := At.stay (At.new2 w (0, 0) _ _) hb1; have x0 := A0.c0; have x1 := A0.c1; have y0 := A1.c0; have y1 := A1.c1; have z0 := A2.c0; have z1 := A2.c1; have z2 := A2.f0; have z3 := A2.f1) | (go_at_call_of 30 (Value.agg #[Value.int .i64 bl, Value.int .i64 bh]); refine (HEb.out _).mono ?_; rintro e w2 ⟨rfl, hb2⟩; have D0 := A0.stay hb2; have D1 := A1.stay hb2; have D2 := A2.stay hb2; have u0 := D0.c0; have u1 := D0.c1; have v0 := D1.c0; have v1 := D1.c1; have t0 := D2.c0; have t1 := D2.c1; have t2 := D2.f0; have t3 := D2.f1))
  have BB := Below.on (Below.on (hb _ _ _) hb1) hb2
  clear x0 x1 y0 y1 z0 z1 z2 z3 t0 t1 t2 t3 A0 A1 A2 hb hb1 hb2 HEa HEb u0 u1
  go_cut [8] from 49 to 56 (fun t wx => t = .bool (bl == 0 && bh == 0) ∧ At wx w.heap.size (al, ah) ∧ At wx (w.heap.size + 1) (bl, bh) ∧ At wx (w.heap.size + 1 + 1) (0, 0) ∧ Below w.heap.size w wx)
  case first =>
    by_cases z : bl = 0
    · have zb : (bl == 0) = true := by simp [z]
      clear z
      go_wp2_with fail
      go_meet
      case rel => exact ⟨by simp [zb], D0, D1, D2, BB⟩
    · have zb := beq_no z
      clear z
      go_wp2_with fail
      go_meet
      case rel => exact ⟨by simp [zb], D0, D1, D2, BB⟩
  case rest =>
    clear v0 v1 D0 D1 D2 BB
    obtain ⟨rfl, D0, D1, D2, BB⟩ := hcut
    rw [HZ.out]
    clear HZ
    have u0 := D0.c0; have u1 := D0.c1; have v0 := D1.c0; have v1 := D1.c1
    go_upto_region 8 with fail
    go_cut [80] from 57 to 80 (fun t wx => t = .bool false ∧ At wx w.heap.size (al, ah) ∧ At wx (w.heap.size + 1) (bl, bh) ∧ At wx (w.heap.size + 1 + 1) (0, 0) ∧ Below w.heap.size w wx)
    case first =>
      by_cases s1 : al = ah
      · have s1' : (al == ah) = true := by simp [s1]
        by_cases s2 : bl = bh
        · have s2' : (bl == bh) = true := by simp [s2]
          clear s1 s2
          go_wp2_with fail
          go_meet
          case rel => exact ⟨by simp [*], D0, D1, D2, BB⟩
        · have s2' := beq_no s2
          clear s1 s2
          go_wp2_with fail
          go_meet
          case rel => exact ⟨by simp [*], D0, D1, D2, BB⟩
      · have s1' := beq_no s1
        clear s1
        go_wp2_with fail
        go_meet
        case rel => exact ⟨by simp [*], D0, D1, D2, BB⟩
    case rest =>
      clear u0 u1 v0 v1 D0 D1 D2 BB
      obtain ⟨rfl, D0, D1, D2, BB⟩ := hcut
      have u0 := D0.c0; have u1 := D0.c1; have v0 := D1.c0; have v1 := D1.c1; have t0 := D2.c0; have t1 := D2.c1; have t2 := D2.f0; have t3 := D2.f1
      simp only at u0 u1 v0 v1 t0 t1
      go_wp2_with fail
      exact bodyPost_ret (v := .tuple #[sv (0, 0), .bool false]) (by simp [results, Try.results21, go_sem, *]) rfl ⟨rfl, Below.put BB (by omega) _ _⟩
end Go.Proofs.Ytbepapbfohfdkaa

/- The document's own Meet. -/
namespace Go.Proofs.Ytbepapbfohfdkaa
open Go.RowKit Go.Lib Go.Sort

set_option maxHeartbeats 2000000 in
theorem rmeet_core (al ah bl bh m k : Int) (hm : m = max al bl) (hk : k = min ah bh) (w : World) : Calls Try.prog 10 #[sv (al, ah), sv (bl, bh)] w fun e w' => e = .returned (.tuple #[sv (if k < m then (0, 0) else (m, k)), .bool (!decide (k < m))]) ∧ Below w.heap.size w w' := by
  have HL : Hid (∀ w, Calls Try.prog 29 #[.int .i64 ah, .int .i64 bh] w fun e w' => e = .returned (.int .i64 k) ∧ w' = w) := fun w => hk ▸ lesser_any ah bh w
  have HG : Hid (∀ w, Calls Try.prog 28 #[.int .i64 al, .int .i64 bl] w fun e w' => e = .returned (.int .i64 m) ∧ w' = w) := fun w => hm ▸ greater_any al bl w
  have hb := fun (o1 o2 o3 : Obj) => (Below.one (Below.one (Below.one (Below.refl _ w) o1) o2) o3 : Below w.heap.size w _)
  clear hm hk
  have HN : Hid (∀ w, Calls Try.prog 30 #[.agg #[.int .i64 m, .int .i64 k]] w fun e w' => e = .returned (.bool (decide (k < m))) ∧ Below w.heap.size w w') := fun w => none_any (m, k) w
  go_enter Try.func10, Try.ntmps10
  go_upto_region 1 with fail
  have A0 := At.more (At.more (At.new w (al, ah)) (.cells #[.int .i64 bl, .int .i64 bh] 23)) (.cells #[.int .i64 0, .int .i64 0] 23)
  have A1 := At.more (At.new1 w (bl, bh) (.cells #[.int .i64 al, .int .i64 ah] 23)) (.cells #[.int .i64 0, .int .i64 0] 23)
  have A2 := At.new2 w (0, 0) (.cells #[.int .i64 al, .int .i64 ah] 23) (.cells #[.int .i64 bl, .int .i64 bh] 23)
  have B0 := hb (.cells #[.int .i64 al, .int .i64 ah] 23) (.cells #[.int .i64 bl, .int .i64 bh] 23) (.cells #[.int .i64 0, .int .i64 0] 23)
  have hsz : w.heap.size + 1 + 1 < (((w.alloc (.cells #[.int .i64 al, .int .i64 ah] 23)).alloc (.cells #[.int .i64 bl, .int .i64 bh] 23)).alloc (.cells #[.int .i64 0, .int .i64 0] 23)).heap.size := by simp
  simp only at A0 A1 A2
  clear hb
  generalize ((w.alloc (.cells #[.int .i64 al, .int .i64 ah] 23)).alloc (.cells #[.int .i64 bl, .int .i64 bh] 23)).alloc (.cells #[.int .i64 0, .int .i64 0] 23) = W at *
  have x0 := A0.c0; have x1 := A0.c1; have y0 := A1.c0; have y1 := A1.c1
  simp only at x0 x1 y0 y1
  have lA0 := A0.lt; have lA1 := A1.lt
  go_region_held3 (fun w' => w'.cell? ⟨w.heap.size, 0, none⟩ = some (.int .i64 al) ∧ w'.cell? ⟨w.heap.size, 1, none⟩ = some (.int .i64 ah) ∧ w'.cell? ⟨w.heap.size + 1, 0, none⟩ = some (.int .i64 bl) ∧ w'.cell? ⟨w.heap.size + 1, 1, none⟩ = some (.int .i64 bh)) (go_keep) (first | (go_at_call 29; refine (HL.out _).mono ?_; rintro e w5 ⟨rfl, hw5⟩; rw [hw5]; clear hw5) | (go_at_call 28; refine (HG.out _).mono ?_; rintro e w5 ⟨rfl, hw5⟩; rw [hw5]; clear hw5))
  all_goals
    have D2 := (A2.more (.cells #[.int .i64 m, .int .i64 k] 23)).stay (Below.drew (Below.refl _ _))
    have D3 := (At.new W (m, k)).stay (Below.drew (Below.refl _ _))
    have BB := Below.drew (Below.one B0 (.cells #[.int .i64 m, .int .i64 k] 23))
    simp only at D3
    clear x0 x1 y0 y1 lA0 lA1 HL HG A0 A1 A2 B0
    generalize (W.alloc (.cells #[.int .i64 m, .int .i64 k] 23)).drew = W2 at *
    generalize W.heap.size = g at *
    have z0 := D3.c0; have z1 := D3.c1
    by_cases hkm : k < m
    · rw [decide_eq_true hkm] at HN
      go_wp2_with (go_at_call 30; refine (HN.out _).mono ?_; rintro e w6 ⟨rfl, hb6⟩; have E2 := D2.stay hb6; have s0 := E2.c0; have s1 := E2.c1; have s2 := E2.f0; have s3 := E2.f1)
      exact bodyPost_ret (v := .tuple #[sv (0, 0), .bool false]) (by simp [results, Try.results10, go_sem, *]) rfl ⟨rfl, Below.put (Below.on BB hb6) (by omega) _ _⟩
    · rw [decide_eq_false hkm] at HN
      go_wp2_with (go_at_call 30; refine (HN.out _).mono ?_; rintro e w6 ⟨rfl, hb6⟩; have E2 := D2.stay hb6; have s0 := E2.c0; have s1 := E2.c1; have s2 := E2.f0; have s3 := E2.f1; have E3 := D3.stay hb6; have p0 := E3.c0; have p1 := E3.c1)
      exact bodyPost_ret (v := .tuple #[sv (m, k), .bool true]) (by simp [results, Try.results10, go_sem, *]) rfl ⟨rfl, Below.put (Below.on BB hb6) (by omega) _ _⟩
theorem rmeet_any (a b : Sp) (w : World) : Calls Try.prog 10 #[sv a, sv b] w fun e w' => e = .returned (.tuple #[sv (meetS a b), .bool (meetB a b)]) ∧ Below w.heap.size w w' := by
  have := rmeet_core a.1 a.2 b.1 b.2 _ _ rfl rfl w
  have e1 : (if min a.2 b.2 < max a.1 b.1 then (0, 0) else (max a.1 b.1, min a.2 b.2)) = meetS a b := by
    unfold meetS
    by_cases h : min a.2 b.2 < max a.1 b.1
    · rw [if_pos h, if_neg (by omega)]
    · rw [if_neg h, if_pos (by omega)]
  have e2 : (!decide (min a.2 b.2 < max a.1 b.1)) = meetB a b := by
    unfold meetB
    by_cases h : min a.2 b.2 < max a.1 b.1
    · rw [decide_eq_true h, decide_eq_false (by omega)]; rfl
    · rw [decide_eq_false h, decide_eq_true (by omega)]; rfl
  rw [e1, e2] at this
  exact this
end Go.Proofs.Ytbepapbfohfdkaa
