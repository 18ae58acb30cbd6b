/- The document's own Do: what is less, what is equal, and the rest. -/
import Derived.Test.YtbepapbfohfdkaaPart11
import Derived.Test.YtbepapbfohfdkaaPart3
import Derived.Test.YtbepapbfohfdkaaPart5
import Derived.Test.YtbepapbfohfdkaaPart6
import Derived.Test.YtbepapbfohfdkaaPart7
import Derived.Test.YtbepapbfohfdkaaPart9
namespace Go.Proofs.Ytbepapbfohfdkaa
open Go.RowKit Go.Lib Go.Sort

set_option maxRecDepth 100000 in
set_option maxHeartbeats 2000000 in
theorem rdo_8 (al ah bl bh : Int) (h1 : al ≤ ah) (h2 : bl ≤ bh) (w : World) : Calls Try.prog 21 #[.int .i64 8, sv (al, ah), sv (bl, bh)] w fun e w' => e = .returned (.tuple #[sv (tru (decide (ah < bl)) (decide (bh ≤ al))), .bool true]) ∧ Below w.heap.size w w' := by
  have HEa : Hid (∀ w, Calls Try.prog 30 #[.agg #[.int .i64 al, .int .i64 ah]] w fun e w' => e = .returned (.bool false) ∧ Below w.heap.size w w') := noF h1
  have HEb : Hid (∀ w, Calls Try.prog 30 #[.agg #[.int .i64 bl, .int .i64 bh]] w fun e w' => e = .returned (.bool false) ∧ Below w.heap.size w w') := noF h2
  have hb := fun (o1 o2 o3 : Obj) => (Below.one (Below.one (Below.one (Below.refl _ w) o1) o2) o3 : Below w.heap.size w _)
  have HC := Hid.mk' rtruth_any
  clear h1 h2
  go_enter Try.func21, Try.ntmps21
  go_upto_region 7 with (first | (go_at_call_of 30 (Value.agg #[Value.int .i64 al, Value.int .i64 ah]); refine (HEa.out _).mono ?_; rintro e w1 ⟨rfl, hb1⟩; have A0 := At.stay (At.more (At.more (At.new w (al, ah)) _) _) hb1; have A1 := At.stay (At.more (At.new1 w (bl, bh) _) _) hb1; have A2 := At.stay (At.new2 w (0, 0) _ _) hb1; have x0 := A0.c0; have x1 := A0.c1; have y0 := A1.c0; have y1 := A1.c1; have z0 := A2.c0; have z1 := A2.c1; have z2 := A2.f0; have z3 := A2.f1) | (go_at_call_of 30 (Value.agg #[Value.int .i64 bl, Value.int .i64 bh]); refine (HEb.out _).mono ?_; rintro e w2 ⟨rfl, hb2⟩; have D0 := A0.stay hb2; have D1 := A1.stay hb2; have D2 := A2.stay hb2; have u0 := D0.c0; have u1 := D0.c1; have v0 := D1.c0; have v1 := D1.c1; have t0 := D2.c0; have t1 := D2.c1; have t2 := D2.f0; have t3 := D2.f1))
  have BB := Below.on (Below.on (hb _ _ _) hb1) hb2
  clear x0 x1 y0 y1 z0 z1 z2 z3 t0 t1 t2 t3 A0 A1 A2 hb hb1 hb2 HEa HEb u0 u1
  go_cut [8] from 49 to 56 (fun t wx => t = .bool (bl == 0 && bh == 0) ∧ At wx w.heap.size (al, ah) ∧ At wx (w.heap.size + 1) (bl, bh) ∧ At wx (w.heap.size + 1 + 1) (0, 0) ∧ Below w.heap.size w wx)
  case first =>
    by_cases z : bl = 0
    · have zb : (bl == 0) = true := by simp [z]
      clear z
      go_wp2_with fail
      go_meet
      case rel => exact ⟨by simp [zb], D0, D1, D2, BB⟩
    · have zb := beq_no z
      clear z
      go_wp2_with fail
      go_meet
      case rel => exact ⟨by simp [zb], D0, D1, D2, BB⟩
  case rest =>
    clear v0 v1 D0 D1 D2 BB
    obtain ⟨rfl, D0, D1, D2, BB⟩ := hcut
    have u0 := D0.c0; have u1 := D0.c1; have v0 := D1.c0; have v1 := D1.c1
    go_upto_region 8 with fail
    go_cut [80] from 57 to 80 (fun t wx => t = .bool false ∧ At wx w.heap.size (al, ah) ∧ At wx (w.heap.size + 1) (bl, bh) ∧ At wx (w.heap.size + 1 + 1) (0, 0) ∧ Below w.heap.size w wx)
    case first =>
      by_cases s1 : al = ah
      · have s1' : (al == ah) = true := by simp [s1]
        by_cases s2 : bl = bh
        · have s2' : (bl == bh) = true := by simp [s2]
          clear s1 s2
          go_wp2_with fail
          go_meet
          case rel => exact ⟨by simp [*], D0, D1, D2, BB⟩
        · have s2' := beq_no s2
          clear s1 s2
          go_wp2_with fail
          go_meet
          case rel => exact ⟨by simp [*], D0, D1, D2, BB⟩
      · have s1' := beq_no s1
        clear s1
        go_wp2_with fail
        go_meet
        case rel => exact ⟨by simp [*], D0, D1, D2, BB⟩
    case rest =>
      clear u0 u1 v0 v1 D0 D1 D2 BB
      obtain ⟨rfl, D0, D1, D2, BB⟩ := hcut
      have u0 := D0.c0; have u1 := D0.c1; have v0 := D1.c0; have v1 := D1.c1; have t0 := D2.c0; have t1 := D2.c1; have t2 := D2.f0; have t3 := D2.f1
      simp only at u0 u1 v0 v1 t0 t1
      cases hp : decide (ah < bl) <;> cases hq : decide (bh ≤ al)
      all_goals
        go_wp2_with (go_at_call 39; refine (HC.out _ _ _).mono ?_; rintro e w6 ⟨rfl, hb6⟩; have E2 := D2.stay hb6; have s0 := E2.c0; have s1 := E2.c1; have s2 := E2.f0; have s3 := E2.f1)
        exact bodyPost_ret (v := .tuple #[sv (tru _ _), .bool true]) (by simp [results, Try.results21, go_sem, *]) rfl ⟨rfl, Below.put (Below.on BB hb6) (by omega) _ _⟩
set_option maxRecDepth 100000 in
set_option maxHeartbeats 2000000 in
theorem rdo_9a (al ah bl bh : Int) (h1 : al ≤ ah) (h2 : bl ≤ bh) (hs1 : al ≠ ah) (w : World) : Calls Try.prog 21 #[.int .i64 9, sv (al, ah), sv (bl, bh)] w fun e w' => e = .returned (.tuple #[sv (tru false (!meetB (al, ah) (bl, bh))), .bool true]) ∧ Below w.heap.size w w' := by
  have HEa : Hid (∀ w, Calls Try.prog 30 #[.agg #[.int .i64 al, .int .i64 ah]] w fun e w' => e = .returned (.bool false) ∧ Below w.heap.size w w') := noF h1
  have HEb : Hid (∀ w, Calls Try.prog 30 #[.agg #[.int .i64 bl, .int .i64 bh]] w fun e w' => e = .returned (.bool false) ∧ Below w.heap.size w w') := noF h2
  have hb := fun (o1 o2 o3 : Obj) => (Below.one (Below.one (Below.one (Below.refl _ w) o1) o2) o3 : Below w.heap.size w _)
  have HM := Hid.mk' fun w => rmeet_any (al, ah) (bl, bh) w
  have HT := Hid.mk' rtruth_any
  generalize meetB (al, ah) (bl, bh) = mB at *
  generalize meetS (al, ah) (bl, bh) = mS at *
  obtain ⟨m1, m2⟩ := mS
  have Hhs1 := Hid.mk' hs1
  clear hs1
  clear h1 h2
  go_enter Try.func21, Try.ntmps21
  go_upto_region 7 with (first | (go_at_call_of 30 (Value.agg #[Value.int .i64 al, Value.int .i64 ah]); refine (HEa.out _).mono ?_; rintro e w1 ⟨rfl, hb1⟩; have A0 := At.stay (At.more (At.more (At.new w (al, ah)) _) _) hb1; have A1 := At.stay (At.more (At.new1 w (bl, bh) _) _) hb1; have A2 := At.stay (At.new2 w (0, 0) _ _) hb1; have x0 := A0.c0; have x1 := A0.c1; have y0 := A1.c0; have y1 := A1.c1; have z0 := A2.c0; have z1 := A2.c1; have z2 := A2.f0; have z3 := A2.f1) | (go_at_call_of 30 (Value.agg #[Value.int .i64 bl, Value.int .i64 bh]); refine (HEb.out _).mono ?_; rintro e w2 ⟨rfl, hb2⟩; have D0 := A0.stay hb2; have D1 := A1.stay hb2; have D2 := A2.stay hb2; have u0 := D0.c0; have u1 := D0.c1; have v0 := D1.c0; have v1 := D1.c1; have t0 := D2.c0; have t1 := D2.c1; have t2 := D2.f0; have t3 := D2.f1))
  have BB := Below.on (Below.on (hb _ _ _) hb1) hb2
  clear x0 x1 y0 y1 z0 z1 z2 z3 t0 t1 t2 t3 A0 A1 A2 hb hb1 hb2 HEa HEb u0 u1
  go_cut [8] from 49 to 56 (fun t wx => t = .bool (bl == 0 && bh == 0) ∧ At wx w.heap.size (al, ah) ∧ At wx (w.heap.size + 1) (bl, bh) ∧ At wx (w.heap.size + 1 + 1) (0, 0) ∧ Below w.heap.size w wx)
  case first =>
    by_cases z : bl = 0
    · have zb : (bl == 0) = true := by simp [z]
      clear z
      go_wp2_with fail
      go_meet
      case rel => exact ⟨by simp [zb], D0, D1, D2, BB⟩
    · have zb := beq_no z
      clear z
      go_wp2_with fail
      go_meet
      case rel => exact ⟨by simp [zb], D0, D1, D2, BB⟩
  case rest =>
    clear v0 v1 D0 D1 D2 BB
    obtain ⟨rfl, D0, D1, D2, BB⟩ := hcut
    have u0 := D0.c0; have u1 := D0.c1; have v0 := D1.c0; have v1 := D1.c1
    go_upto_region 8 with fail
    go_cut [80] from 57 to 80 (fun t wx => t = .bool false ∧ At wx w.heap.size (al, ah) ∧ At wx (w.heap.size + 1) (bl, bh) ∧ At wx (w.heap.size + 1 + 1) (0, 0) ∧ Below w.heap.size w wx)
    case first =>
      by_cases s1 : al = ah
      · have s1' : (al == ah) = true := by simp [s1]
        by_cases s2 : bl = bh
        · have s2' : (bl == bh) = true := by simp [s2]
          clear s1 s2
          go_wp2_with fail
          go_meet
          case rel => exact ⟨by simp [*], D0, D1, D2, BB⟩
        · have s2' := beq_no s2
          clear s1 s2
          go_wp2_with fail
          go_meet
          case rel => exact ⟨by simp [*], D0, D1, D2, BB⟩
      · have s1' := beq_no s1
        clear s1
        go_wp2_with fail
        go_meet
        case rel => exact ⟨by simp [*], D0, D1, D2, BB⟩
    case rest =>
      clear u0 u1 v0 v1 D0 D1 D2 BB
      obtain ⟨rfl, D0, D1, D2, BB⟩ := hcut
      have u0 := D0.c0; have u1 := D0.c1; have v0 := D1.c0; have v1 := D1.c1; have t0 := D2.c0; have t1 := D2.c1; have t2 := D2.f0; have t3 := D2.f1
      simp only at u0 u1 v0 v1 t0 t1
      go_upto_region 38 with (go_at_call 10; refine (HM.out _).mono ?_; rintro e w3 ⟨rfl, hb3⟩)
      replace D0 := D0.on (.cells #[.int .i64 m1, .int .i64 m2] 23) hb3
      replace D1 := D1.on (.cells #[.int .i64 m1, .int .i64 m2] 23) hb3
      replace D2 := D2.on (.cells #[.int .i64 m1, .int .i64 m2] 23) hb3
      replace BB := Below.one (Below.on BB hb3) (.cells #[.int .i64 m1, .int .i64 m2] 23)
      clear u0 u1 v0 v1 t0 t1 t2 t3 hb3 HM
      generalize w3.alloc (.cells #[.int .i64 m1, .int .i64 m2] 23) = W3 at *
      have u0 := D0.c0; have u1 := D0.c1; have v0 := D1.c0; have v1 := D1.c1
      have k1 := beq_no Hhs1.out
      go_wp2_with (go_at_call 39; refine (HT.out _ _ _).mono ?_; rintro e w6 ⟨rfl, hb6⟩; have E2 := D2.stay hb6; have s0 := E2.c0; have s1 := E2.c1; have s2 := E2.f0; have s3 := E2.f1)
      exact bodyPost_ret (v := .tuple #[sv (tru _ _), .bool true]) (by simp [results, Try.results21, go_sem, *]) rfl ⟨rfl, Below.put (Below.on BB hb6) (by omega) _ _⟩
set_option maxRecDepth 100000 in
set_option maxHeartbeats 2000000 in
theorem rdo_9b (al ah bl bh : Int) (h1 : al ≤ ah) (h2 : bl ≤ bh) (hs1 : al = ah) (hs2 : bl ≠ bh) (w : World) : Calls Try.prog 21 #[.int .i64 9, sv (al, ah), sv (bl, bh)] w fun e w' => e = .returned (.tuple #[sv (tru false (!meetB (al, ah) (bl, bh))), .bool true]) ∧ Below w.heap.size w w' := by
  have HEa : Hid (∀ w, Calls Try.prog 30 #[.agg #[.int .i64 al, .int .i64 ah]] w fun e w' => e = .returned (.bool false) ∧ Below w.heap.size w w') := noF h1
  have HEb : Hid (∀ w, Calls Try.prog 30 #[.agg #[.int .i64 bl, .int .i64 bh]] w fun e w' => e = .returned (.bool false) ∧ Below w.heap.size w w') := noF h2
  have hb := fun (o1 o2 o3 : Obj) => (Below.one (Below.one (Below.one (Below.refl _ w) o1) o2) o3 : Below w.heap.size w _)
  have HM := Hid.mk' fun w => rmeet_any (al, ah) (bl, bh) w
  have HT := Hid.mk' rtruth_any
  generalize meetB (al, ah) (bl, bh) = mB at *
  generalize meetS (al, ah) (bl, bh) = mS at *
  obtain ⟨m1, m2⟩ := mS
  have Hhs1 := Hid.mk' hs1
  clear hs1
  have Hhs2 := Hid.mk' hs2
  clear hs2
  clear h1 h2
  go_enter Try.func21, Try.ntmps21
  go_upto_region 7 with (first | (go_at_call_of 30 (Value.agg #[Value.int .i64 al, Value.int .i64 ah]); refine (HEa.out _).mono ?_; rintro e w1 ⟨rfl, hb1⟩; have A0 := At.stay (At.more (At.more (At.new w (al, ah)) _) _) hb1; have A1 := At.stay (At.more (At.new1 w (bl, bh) _) _) hb1; have A2 := At.stay (At.new2 w (0, 0) _ _) hb1; have x0 := A0.c0; have x1 := A0.c1; have y0 := A1.c0; have y1 := A1.c1; have z0 := A2.c0; have z1 := A2.c1; have z2 := A2.f0; have z3 := A2.f1) | (go_at_call_of 30 (Value.agg #[Value.int .i64 bl, Value.int .i64 bh]); refine (HEb.out _).mono ?_; rintro e w2 ⟨rfl, hb2⟩; have D0 := A0.stay hb2; have D1 := A1.stay hb2; have D2 := A2.stay hb2; have u0 := D0.c0; have u1 := D0.c1; have v0 := D1.c0; have v1 := D1.c1; have t0 := D2.c0; have t1 := D2.c1; have t2 := D2.f0; have t3 := D2.f1))
  have BB := Below.on (Below.on (hb _ _ _) hb1) hb2
  clear x0 x1 y0 y1 z0 z1 z2 z3 t0 t1 t2 t3 A0 A1 A2 hb hb1 hb2 HEa HEb u0 u1
  go_cut [8] from 49 to 56 (fun t wx => t = .bool (bl == 0 && bh == 0) ∧ At wx w.heap.size (al, ah) ∧ At wx (w.heap.size + 1) (bl, bh) ∧ At wx (w.heap.size + 1 + 1) (0, 0) ∧ Below w.heap.size w wx)
  case first =>
    by_cases z : bl = 0
    · have zb : (bl == 0) = true := by simp [z]
      clear z
      go_wp2_with fail
      go_meet
      case rel => exact ⟨by simp [zb], D0, D1, D2, BB⟩
    · have zb := beq_no z
      clear z
      go_wp2_with fail
      go_meet
      case rel => exact ⟨by simp [zb], D0, D1, D2, BB⟩
  case rest =>
    clear v0 v1 D0 D1 D2 BB
    obtain ⟨rfl, D0, D1, D2, BB⟩ := hcut
    have u0 := D0.c0; have u1 := D0.c1; have v0 := D1.c0; have v1 := D1.c1
    go_upto_region 8 with fail
    go_cut [80] from 57 to 80 (fun t wx => t = .bool false ∧ At wx w.heap.size (al, ah) ∧ At wx (w.heap.size + 1) (bl, bh) ∧ At wx (w.heap.size + 1 + 1) (0, 0) ∧ Below w.heap.size w wx)
    case first =>
      by_cases s1 : al = ah
      · have s1' : (al == ah) = true := by simp [s1]
        by_cases s2 : bl = bh
        · have s2' : (bl == bh) = true := by simp [s2]
          clear s1 s2
          go_wp2_with fail
          go_meet
          case rel => exact ⟨by simp [*], D0, D1, D2, BB⟩
        · have s2' := beq_no s2
          clear s1 s2
          go_wp2_with fail
          go_meet
          case rel => exact ⟨by simp [*], D0, D1, D2, BB⟩
      · have s1' := beq_no s1
        clear s1
        go_wp2_with fail
        go_meet
        case rel => exact ⟨by simp [*], D0, D1, D2, BB⟩
    case rest =>
      clear u0 u1 v0 v1 D0 D1 D2 BB
      obtain ⟨rfl, D0, D1, D2, BB⟩ := hcut
      have u0 := D0.c0; have u1 := D0.c1; have v0 := D1.c0; have v1 := D1.c1; have t0 := D2.c0; have t1 := D2.c1; have t2 := D2.f0; have t3 := D2.f1
      simp only at u0 u1 v0 v1 t0 t1
      go_upto_region 38 with (go_at_call 10; refine (HM.out _).mono ?_; rintro e w3 ⟨rfl, hb3⟩)
      replace D0 := D0.on (.cells #[.int .i64 m1, .int .i64 m2] 23) hb3
      replace D1 := D1.on (.cells #[.int .i64 m1, .int .i64 m2] 23) hb3
      replace D2 := D2.on (.cells #[.int .i64 m1, .int .i64 m2] 23) hb3
      replace BB := Below.one (Below.on BB hb3) (.cells #[.int .i64 m1, .int .i64 m2] 23)
      clear u0 u1 v0 v1 t0 t1 t2 t3 hb3 HM
      generalize w3.alloc (.cells #[.int .i64 m1, .int .i64 m2] 23) = W3 at *
      have u0 := D0.c0; have u1 := D0.c1; have v0 := D1.c0; have v1 := D1.c1
      have k1 : (al == ah) = true := by simp [Hhs1.out]
      have k2 := beq_no Hhs2.out
      go_wp2_with (go_at_call 39; refine (HT.out _ _ _).mono ?_; rintro e w6 ⟨rfl, hb6⟩; have E2 := D2.stay hb6; have s0 := E2.c0; have s1 := E2.c1; have s2 := E2.f0; have s3 := E2.f1)
      exact bodyPost_ret (v := .tuple #[sv (tru _ _), .bool true]) (by simp [results, Try.results21, go_sem, *]) rfl ⟨rfl, Below.put (Below.on BB hb6) (by omega) _ _⟩
set_option maxRecDepth 100000 in
set_option maxHeartbeats 2000000 in
theorem rdo_9c (al ah bl bh : Int) (h1 : al ≤ ah) (h2 : bl ≤ bh) (hs1 : al = ah) (hs2 : bl = bh) (hs3 : al ≠ bl) (w : World) : Calls Try.prog 21 #[.int .i64 9, sv (al, ah), sv (bl, bh)] w fun e w' => e = .returned (.tuple #[sv (tru false (!meetB (al, ah) (bl, bh))), .bool true]) ∧ Below w.heap.size w w' := by
  have HEa : Hid (∀ w, Calls Try.prog 30 #[.agg #[.int .i64 al, .int .i64 ah]] w fun e w' => e = .returned (.bool false) ∧ Below w.heap.size w w') := noF h1
  have HEb : Hid (∀ w, Calls Try.prog 30 #[.agg #[.int .i64 bl, .int .i64 bh]] w fun e w' => e = .returned (.bool false) ∧ Below w.heap.size w w') := noF h2
  have hb := fun (o1 o2 o3 : Obj) => (Below.one (Below.one (Below.one (Below.refl _ w) o1) o2) o3 : Below w.heap.size w _)
  have HM := Hid.mk' fun w => rmeet_any (al, ah) (bl, bh) w
  have HT := Hid.mk' rtruth_any
  generalize meetB (al, ah) (bl, bh) = mB at *
  generalize meetS (al, ah) (bl, bh) = mS at *
  obtain ⟨m1, m2⟩ := mS
  have Hhs1 := Hid.mk' hs1
  clear hs1
  have Hhs2 := Hid.mk' hs2
  clear hs2
  have Hhs3 := Hid.mk' hs3
  clear hs3
  clear h1 h2
  go_enter Try.func21, Try.ntmps21
  go_upto_region 7 with (first | (go_at_call_of 30 (Value.agg #[Value.int .i64 al, Value.int .i64 ah]); refine (HEa.out _).mono ?_; rintro e w1 ⟨rfl, hb1⟩; have A0 := At.stay (At.more (At.more (At.new w (al, ah)) _) _) hb1; have A1 := At.stay (At.more (At.new1 w (bl, bh) _) _) hb1; have A2 := At.stay (At.new2 w (0, 0) _ _) hb1; have x0 := A0.c0; have x1 := A0.c1; have y0 := A1.c0; have y1 := A1.c1; have z0 := A2.c0; have z1 := A2.c1; have z2 := A2.f0; have z3 := A2.f1) | (go_at_call_of 30 (Value.agg #[Value.int .i64 bl, Value.int .i64 bh]); refine (HEb.out _).mono ?_; rintro e w2 ⟨rfl, hb2⟩; have D0 := A0.stay hb2; have D1 := A1.stay hb2; have D2 := A2.stay hb2; have u0 := D0.c0; have u1 := D0.c1; have v0 := D1.c0; have v1 := D1.c1; have t0 := D2.c0; have t1 := D2.c1; have t2 := D2.f0; have t3 := D2.f1))
  have BB := Below.on (Below.on (hb _ _ _) hb1) hb2
  clear x0 x1 y0 y1 z0 z1 z2 z3 t0 t1 t2 t3 A0 A1 A2 hb hb1 hb2 HEa HEb u0 u1
  go_cut [8] from 49 to 56 (fun t wx => t = .bool (bl == 0 && bh == 0) ∧ At wx w.heap.size (al, ah) ∧ At wx (w.heap.size + 1) (bl, bh) ∧ At wx (w.heap.size + 1 + 1) (0, 0) ∧ Below w.heap.size w wx)
  case first =>
    by_cases z : bl = 0
    · have zb : (bl == 0) = true := by simp [z]
      clear z
      go_wp2_with fail
      go_meet
      case rel => exact ⟨by simp [zb], D0, D1, D2, BB⟩
    · have zb := beq_no z
      clear z
      go_wp2_with fail
      go_meet
      case rel => exact ⟨by simp [zb], D0, D1, D2, BB⟩
  case rest =>
    clear v0 v1 D0 D1 D2 BB
    obtain ⟨rfl, D0, D1, D2, BB⟩ := hcut
    have u0 := D0.c0; have u1 := D0.c1; have v0 := D1.c0; have v1 := D1.c1
    go_upto_region 8 with fail
    go_cut [80] from 57 to 80 (fun t wx => t = .bool false ∧ At wx w.heap.size (al, ah) ∧ At wx (w.heap.size + 1) (bl, bh) ∧ At wx (w.heap.size + 1 + 1) (0, 0) ∧ Below w.heap.size w wx)
    case first =>
      by_cases s1 : al = ah
      · have s1' : (al == ah) = true := by simp [s1]
        by_cases s2 : bl = bh
        · have s2' : (bl == bh) = true := by simp [s2]
          clear s1 s2
          go_wp2_with fail
          go_meet
          case rel => exact ⟨by simp [*], D0, D1, D2, BB⟩
        · have s2' := beq_no s2
          clear s1 s2
          go_wp2_with fail
          go_meet
          case rel => exact ⟨by simp [*], D0, D1, D2, BB⟩
      · have s1' := beq_no s1
        clear s1
        go_wp2_with fail
        go_meet
        case rel => exact ⟨by simp [*], D0, D1, D2, BB⟩
    case rest =>
      clear u0 u1 v0 v1 D0 D1 D2 BB
      obtain ⟨rfl, D0, D1, D2, BB⟩ := hcut
      have u0 := D0.c0; have u1 := D0.c1; have v0 := D1.c0; have v1 := D1.c1; have t0 := D2.c0; have t1 := D2.c1; have t2 := D2.f0; have t3 := D2.f1
      simp only at u0 u1 v0 v1 t0 t1
      go_upto_region 38 with (go_at_call 10; refine (HM.out _).mono ?_; rintro e w3 ⟨rfl, hb3⟩)
      replace D0 := D0.on (.cells #[.int .i64 m1, .int .i64 m2] 23) hb3
      replace D1 := D1.on (.cells #[.int .i64 m1, .int .i64 m2] 23) hb3
      replace D2 := D2.on (.cells #[.int .i64 m1, .int .i64 m2] 23) hb3
      replace BB := Below.one (Below.on BB hb3) (.cells #[.int .i64 m1, .int .i64 m2] 23)
      clear u0 u1 v0 v1 t0 t1 t2 t3 hb3 HM
      generalize w3.alloc (.cells #[.int .i64 m1, .int .i64 m2] 23) = W3 at *
      have u0 := D0.c0; have u1 := D0.c1; have v0 := D1.c0; have v1 := D1.c1
      have k1 : (al == ah) = true := by simp [Hhs1.out]
      have k2 : (bl == bh) = true := by simp [Hhs2.out]
      have k3 := beq_no Hhs3.out
      go_wp2_with (go_at_call 39; refine (HT.out _ _ _).mono ?_; rintro e w6 ⟨rfl, hb6⟩; have E2 := D2.stay hb6; have s0 := E2.c0; have s1 := E2.c1; have s2 := E2.f0; have s3 := E2.f1)
      exact bodyPost_ret (v := .tuple #[sv (tru _ _), .bool true]) (by simp [results, Try.results21, go_sem, *]) rfl ⟨rfl, Below.put (Below.on BB hb6) (by omega) _ _⟩
set_option maxRecDepth 100000 in
set_option maxHeartbeats 2000000 in
theorem rdo_9d (al ah bl bh : Int) (h1 : al ≤ ah) (h2 : bl ≤ bh) (hs1 : al = ah) (hs2 : bl = bh) (hs3 : al = bl) (w : World) : Calls Try.prog 21 #[.int .i64 9, sv (al, ah), sv (bl, bh)] w fun e w' => e = .returned (.tuple #[sv (tru true (!meetB (al, ah) (bl, bh))), .bool true]) ∧ Below w.heap.size w w' := by
  have HEa : Hid (∀ w, Calls Try.prog 30 #[.agg #[.int .i64 al, .int .i64 ah]] w fun e w' => e = .returned (.bool false) ∧ Below w.heap.size w w') := noF h1
  have HEb : Hid (∀ w, Calls Try.prog 30 #[.agg #[.int .i64 bl, .int .i64 bh]] w fun e w' => e = .returned (.bool false) ∧ Below w.heap.size w w') := noF h2
  have hb := fun (o1 o2 o3 : Obj) => (Below.one (Below.one (Below.one (Below.refl _ w) o1) o2) o3 : Below w.heap.size w _)
  have HM := Hid.mk' fun w => rmeet_any (al, ah) (bl, bh) w
  have HT := Hid.mk' rtruth_any
  generalize meetB (al, ah) (bl, bh) = mB at *
  generalize meetS (al, ah) (bl, bh) = mS at *
  obtain ⟨m1, m2⟩ := mS
  have Hhs1 := Hid.mk' hs1
  clear hs1
  have Hhs2 := Hid.mk' hs2
  clear hs2
  have Hhs3 := Hid.mk' hs3
  clear hs3
  clear h1 h2
  go_enter Try.func21, Try.ntmps21
  go_upto_region 7 with (first | (go_at_call_of 30 (Value.agg #[Value.int .i64 al, Value.int .i64 ah]); refine (HEa.out _).mono ?_; rintro e w1 ⟨rfl, hb1⟩; have A0 := At.stay (At.more (At.more (At.new w (al, ah)) _) _) hb1; have A1 := At.stay (At.more (At.new1 w (bl, bh) _) _) hb1; have A2 := At.stay (At.new2 w (0, 0) _ _) hb1; have x0 := A0.c0; have x1 := A0.c1; have y0 := A1.c0; have y1 := A1.c1; have z0 := A2.c0; have z1 := A2.c1; have z2 := A2.f0; have z3 := A2.f1) | (go_at_call_of 30 (Value.agg #[Value.int .i64 bl, Value.int .i64 bh]); refine (HEb.out _).mono ?_; rintro e w2 ⟨rfl, hb2⟩; have D0 := A0.stay hb2; have D1 := A1.stay hb2; have D2 := A2.stay hb2; have u0 := D0.c0; have u1 := D0.c1; have v0 := D1.c0; have v1 := D1.c1; have t0 := D2.c0; have t1 := D2.c1; have t2 := D2.f0; have t3 := D2.f1))
  have BB := Below.on (Below.on (hb _ _ _) hb1) hb2
  clear x0 x1 y0 y1 z0 z1 z2 z3 t0 t1 t2 t3 A0 A1 A2 hb hb1 hb2 HEa HEb u0 u1
  go_cut [8] from 49 to 56 (fun t wx => t = .bool (bl == 0 && bh == 0) ∧ At wx w.heap.size (al, ah) ∧ At wx (w.heap.size + 1) (bl, bh) ∧ At wx (w.heap.size + 1 + 1) (0, 0) ∧ Below w.heap.size w wx)
  case first =>
    by_cases z : bl = 0
    · have zb : (bl == 0) = true := by simp [z]
      clear z
      go_wp2_with fail
      go_meet
      case rel => exact ⟨by simp [zb], D0, D1, D2, BB⟩
    · have zb := beq_no z
      clear z
      go_wp2_with fail
      go_meet
      case rel => exact ⟨by simp [zb], D0, D1, D2, BB⟩
  case rest =>
    clear v0 v1 D0 D1 D2 BB
    obtain ⟨rfl, D0, D1, D2, BB⟩ := hcut
    have u0 := D0.c0; have u1 := D0.c1; have v0 := D1.c0; have v1 := D1.c1
    go_upto_region 8 with fail
    go_cut [80] from 57 to 80 (fun t wx => t = .bool false ∧ At wx w.heap.size (al, ah) ∧ At wx (w.heap.size + 1) (bl, bh) ∧ At wx (w.heap.size + 1 + 1) (0, 0) ∧ Below w.heap.size w wx)
    case first =>
      by_cases s1 : al = ah
      · have s1' : (al == ah) = true := by simp [s1]
        by_cases s2 : bl = bh
        · have s2' : (bl == bh) = true := by simp [s2]
          clear s1 s2
          go_wp2_with fail
          go_meet
          case rel => exact ⟨by simp [*], D0, D1, D2, BB⟩
        · have s2' := beq_no s2
          clear s1 s2
          go_wp2_with fail
          go_meet
          case rel => exact ⟨by simp [*], D0, D1, D2, BB⟩
      · have s1' := beq_no s1
        clear s1
        go_wp2_with fail
        go_meet
        case rel => exact ⟨by simp [*], D0, D1, D2, BB⟩
    case rest =>
      clear u0 u1 v0 v1 D0 D1 D2 BB
      obtain ⟨rfl, D0, D1, D2, BB⟩ := hcut
      have u0 := D0.c0; have u1 := D0.c1; have v0 := D1.c0; have v1 := D1.c1; have t0 := D2.c0; have t1 := D2.c1; have t2 := D2.f0; have t3 := D2.f1
      simp only at u0 u1 v0 v1 t0 t1
      go_upto_region 38 with (go_at_call 10; refine (HM.out _).mono ?_; rintro e w3 ⟨rfl, hb3⟩)
      replace D0 := D0.on (.cells #[.int .i64 m1, .int .i64 m2] 23) hb3
      replace D1 := D1.on (.cells #[.int .i64 m1, .int .i64 m2] 23) hb3
      replace D2 := D2.on (.cells #[.int .i64 m1, .int .i64 m2] 23) hb3
      replace BB := Below.one (Below.on BB hb3) (.cells #[.int .i64 m1, .int .i64 m2] 23)
      clear u0 u1 v0 v1 t0 t1 t2 t3 hb3 HM
      generalize w3.alloc (.cells #[.int .i64 m1, .int .i64 m2] 23) = W3 at *
      have u0 := D0.c0; have u1 := D0.c1; have v0 := D1.c0; have v1 := D1.c1
      have k1 : (al == ah) = true := by simp [Hhs1.out]
      have k2 : (bl == bh) = true := by simp [Hhs2.out]
      have k3 : (al == bl) = true := by simp [Hhs3.out]
      go_wp2_with (go_at_call 39; refine (HT.out _ _ _).mono ?_; rintro e w6 ⟨rfl, hb6⟩; have E2 := D2.stay hb6; have s0 := E2.c0; have s1 := E2.c1; have s2 := E2.f0; have s3 := E2.f1)
      exact bodyPost_ret (v := .tuple #[sv (tru _ _), .bool true]) (by simp [results, Try.results21, go_sem, *]) rfl ⟨rfl, Below.put (Below.on BB hb6) (by omega) _ _⟩
set_option maxRecDepth 100000 in
set_option maxHeartbeats 2000000 in
theorem rdo_other (op al ah bl bh : Int) (h1 : al ≤ ah) (h2 : bl ≤ bh) (o3 : op ≠ 3) (o4 : op ≠ 4) (o5 : op ≠ 5) (o6 : op ≠ 6) (o7 : op ≠ 7) (o8 : op ≠ 8) (o9 : op ≠ 9) (o10 : op ≠ 10) (w : World) : Calls Try.prog 21 #[.int .i64 op, sv (al, ah), sv (bl, bh)] w fun e w' => e = .returned (.tuple #[sv (0, 0), .bool false]) ∧ Below w.heap.size w w' := by
  have HEa : Hid (∀ w, Calls Try.prog 30 #[.agg #[.int .i64 al, .int .i64 ah]] w fun e w' => e = .returned (.bool false) ∧ Below w.heap.size w w') := noF h1
  have HEb : Hid (∀ w, Calls Try.prog 30 #[.agg #[.int .i64 bl, .int .i64 bh]] w fun e w' => e = .returned (.bool false) ∧ Below w.heap.size w w') := noF h2
  have hb := fun (o1 o2 o3 : Obj) => (Below.one (Below.one (Below.one (Below.refl _ w) o1) o2) o3 : Below w.heap.size w _)
  have p3 := beq_no o3
  have p4 := beq_no o4
  have p5 := beq_no o5
  have p6 := beq_no o6
  have p7 := beq_no o7
  have p8 := beq_no o8
  have p9 := beq_no o9
  have p10 := beq_no o10
  clear o3 o4 o5 o6 o7 o8 o9 o10
  clear h1 h2
  go_enter Try.func21, Try.ntmps21
  go_upto_region 7 with (first | (go_at_call_of 30 (Value.agg #[Value.int .i64 al, Value.int .i64 ah]); refine (HEa.out _).mono ?_; rintro e w1 ⟨rfl, hb1⟩; have A0 := At.stay (At.more (At.more (At.new w (al, ah)) _) _) hb1; have A1 := At.stay (At.more (At.new1 w (bl, bh) _) _) hb1; have A2 := At.stay (At.new2 w (0, 0) _ _) hb1; have x0 := A0.c0; have x1 := A0.c1; have y0 := A1.c0; have y1 := A1.c1; have z0 := A2.c0; have z1 := A2.c1; have z2 := A2.f0; have z3 := A2.f1) | (go_at_call_of 30 (Value.agg #[Value.int .i64 bl, Value.int .i64 bh]); refine (HEb.out _).mono ?_; rintro e w2 ⟨rfl, hb2⟩; have D0 := A0.stay hb2; have D1 := A1.stay hb2; have D2 := A2.stay hb2; have u0 := D0.c0; have u1 := D0.c1; have v0 := D1.c0; have v1 := D1.c1; have t0 := D2.c0; have t1 := D2.c1; have t2 := D2.f0; have t3 := D2.f1))
  have BB := Below.on (Below.on (hb _ _ _) hb1) hb2
  clear x0 x1 y0 y1 z0 z1 z2 z3 t0 t1 t2 t3 A0 A1 A2 hb hb1 hb2 HEa HEb u0 u1
  go_cut [8] from 49 to 56 (fun t wx => t = .bool (bl == 0 && bh == 0) ∧ At wx w.heap.size (al, ah) ∧ At wx (w.heap.size + 1) (bl, bh) ∧ At wx (w.heap.size + 1 + 1) (0, 0) ∧ Below w.heap.size w wx)
  case first =>
    by_cases z : bl = 0
    · have zb : (bl == 0) = true := by simp [z]
      clear z
      go_wp2_with fail
      go_meet
      case rel => exact ⟨by simp [zb], D0, D1, D2, BB⟩
    · have zb := beq_no z
      clear z
      go_wp2_with fail
      go_meet
      case rel => exact ⟨by simp [zb], D0, D1, D2, BB⟩
  case rest =>
    clear v0 v1 D0 D1 D2 BB
    obtain ⟨rfl, D0, D1, D2, BB⟩ := hcut
    have u0 := D0.c0; have u1 := D0.c1; have v0 := D1.c0; have v1 := D1.c1
    go_upto_region 8 with fail
    go_cut [80] from 57 to 80 (fun t wx => t = .bool false ∧ At wx w.heap.size (al, ah) ∧ At wx (w.heap.size + 1) (bl, bh) ∧ At wx (w.heap.size + 1 + 1) (0, 0) ∧ Below w.heap.size w wx)
    case first =>
      by_cases s1 : al = ah
      · have s1' : (al == ah) = true := by simp [s1]
        by_cases s2 : bl = bh
        · have s2' : (bl == bh) = true := by simp [s2]
          clear s1 s2
          go_wp2_with fail
          go_meet
          case rel => exact ⟨by simp [*], D0, D1, D2, BB⟩
        · have s2' := beq_no s2
          clear s1 s2
          go_wp2_with fail
          go_meet
          case rel => exact ⟨by simp [*], D0, D1, D2, BB⟩
      · have s1' := beq_no s1
        clear s1
        go_wp2_with fail
        go_meet
        case rel => exact ⟨by simp [*], D0, D1, D2, BB⟩
    case rest =>
      clear u0 u1 v0 v1 D0 D1 D2 BB
      obtain ⟨rfl, D0, D1, D2, BB⟩ := hcut
      have u0 := D0.c0; have u1 := D0.c1; have v0 := D1.c0; have v1 := D1.c1; have t0 := D2.c0; have t1 := D2.c1; have t2 := D2.f0; have t3 := D2.f1
      simp only at u0 u1 v0 v1 t0 t1
      go_wp2_with fail
      exact bodyPost_ret (v := .tuple #[sv (0, 0), .bool false]) (by simp [results, Try.results21, go_sem, *]) rfl ⟨rfl, Below.put BB (by omega) _ _⟩
end Go.Proofs.Ytbepapbfohfdkaa

/- The document's own Do tells what Do tells. -/
namespace Go.Proofs.Ytbepapbfohfdkaa
open Go.RowKit Go.Lib Go.Sort

theorem set_sg {a b o : Sp} {f : Bool} (h1 : a.1 = a.2) (h2 : b.1 = b.2) : setS a b o f = o := if_pos (by simp [sgB, h1, h2])
theorem rdo_any (op : Int) (a b : Sp) (ha : a.Ok) (hb : b.Ok) (w : World) : Calls Try.prog 21 #[.int .i64 op, sv a, sv b] w fun e w' => e = .returned (.tuple #[sv (doR op a b), .bool (doB op a b)]) ∧ Below w.heap.size w w' := by
  obtain ⟨al, ah⟩ := a
  obtain ⟨bl, bh⟩ := b
  by_cases h1 : al ≤ ah
  · have ea := em_no h1
    by_cases o10 : op = 10
    · subst o10
      have hd : doS 10 (al, ah) (bl, bh) = some (tru (al == 0 && ah == 0) (!hasB (al, ah) 0)) := by
        rw [eq_and]
        unfold doS
        rw [ea]
        simp
      obtain ⟨e1, e2⟩ := do_some hd
      rw [e1, e2]
      exact rdo_not al ah bl bh h1 w
    · by_cases h2 : bl ≤ bh
      · have eb := em_no h2
        have hd := doS_op (op := op) ea eb
        by_cases o3 : op = 3
        · subst o3
          obtain ⟨e1, e2⟩ := do_some (hd.trans (by simp; rfl))
          rw [e1, e2]
          by_cases hs : al = ah ∧ bl = bh
          · have e : sumS (al, ah) (bl, bh) = (wrap64 (al + bl), wrap64 (al + bl)) := by
              obtain ⟨q1, q2⟩ := hs
              subst q1 q2
              exact set_sg rfl rfl
            rw [e]
            exact rdo_s3 al ah bl bh h1 h2 hs.1 hs.2 w
          · exact rdo_n3 al ah bl bh h1 h2 ha hb hs w
        by_cases o4 : op = 4
        · subst o4
          obtain ⟨e1, e2⟩ := do_some (hd.trans (by simp; rfl))
          rw [e1, e2]
          by_cases hs : al = ah ∧ bl = bh
          · have e : difS (al, ah) (bl, bh) = (wrap64 (al - bl), wrap64 (al - bl)) := by
              obtain ⟨q1, q2⟩ := hs
              subst q1 q2
              exact set_sg rfl rfl
            rw [e]
            exact rdo_s4 al ah bl bh h1 h2 hs.1 hs.2 w
          · exact rdo_n4 al ah bl bh h1 h2 ha hb hs w
        by_cases o5 : op = 5
        · subst o5
          obtain ⟨e1, e2⟩ := do_some (hd.trans (by simp; rfl))
          rw [e1, e2]
          by_cases hs : al = ah ∧ bl = bh
          · have e : proS (al, ah) (bl, bh) = (wrap64 (al * bl), wrap64 (al * bl)) := by
              obtain ⟨q1, q2⟩ := hs
              subst q1 q2
              exact (set_sg rfl rfl).trans (hull_sg rfl rfl _)
            rw [e]
            exact rdo_s5 al ah bl bh h1 h2 hs.1 hs.2 w
          · exact rdo_n5 al ah bl bh h1 h2 ha hb hs w
        by_cases o6 : op = 6
        · subst o6
          by_cases hz : (bl, bh) = (0, 0)
          · obtain ⟨e1, e2⟩ := do_none (hd.trans (by rw [hz]; simp))
            rw [e1, e2]
            exact rdo_z6 al ah bl bh h1 h2 hz w
          · obtain ⟨e1, e2⟩ := do_some (hd.trans (by rw [if_neg hz]; simp; rfl))
            rw [e1, e2]
            exact rdo_n6 al ah bl bh h1 h2 ha hz w
        by_cases o7 : op = 7
        · subst o7
          by_cases hz : (bl, bh) = (0, 0)
          · obtain ⟨e1, e2⟩ := do_none (hd.trans (by rw [hz]; simp))
            rw [e1, e2]
            exact rdo_z7 al ah bl bh h1 h2 hz w
          · obtain ⟨e1, e2⟩ := do_some (hd.trans (by rw [if_neg hz, if_neg hz]; simp; rfl))
            rw [e1, e2]
            exact rdo_n7 al ah bl bh h1 h2 ha hb hz w
        by_cases o8 : op = 8
        · subst o8
          obtain ⟨e1, e2⟩ := do_some (hd.trans (by simp; rfl))
          rw [e1, e2]
          exact rdo_8 al ah bl bh h1 h2 w
        by_cases o9 : op = 9
        · subst o9
          have hd' : doS 9 (al, ah) (bl, bh) = some (tru (sgB (al, ah) && decide ((al, ah) = (bl, bh))) (!meetB (al, ah) (bl, bh))) := hd.trans (by simp)
          obtain ⟨e1, e2⟩ := do_some hd'
          rw [e1, e2]
          by_cases h3 : al = ah
          · have e3 : sgB (al, ah) = true := decide_eq_true h3
            rw [e3]
            by_cases h5 : bl = bh
            · by_cases h6 : al = bl
              · rw [decide_eq_true (show (al, ah) = (bl, bh) from Prod.ext h6 (by simp only; omega))]
                exact rdo_9d al ah bl bh h1 h2 h3 h5 h6 w
              · rw [decide_eq_false (show (al, ah) ≠ (bl, bh) from fun h => h6 (Prod.mk.inj h).1)]
                exact rdo_9c al ah bl bh h1 h2 h3 h5 h6 w
            · rw [decide_eq_false (show (al, ah) ≠ (bl, bh) from fun h => h5 (by have := Prod.mk.inj h; omega))]
              exact rdo_9b al ah bl bh h1 h2 h3 h5 w
          · have e3 : sgB (al, ah) = false := decide_eq_false h3
            rw [e3]
            exact rdo_9a al ah bl bh h1 h2 h3 w
        obtain ⟨e1, e2⟩ := do_none (hd.trans (by simp [o3, o4, o5, o6, o7, o8, o9, o10]))
        rw [e1, e2]
        exact rdo_other op al ah bl bh h1 h2 o3 o4 o5 o6 o7 o8 o9 o10 w
      · have eb := em_yes (show bh < bl by omega)
        obtain ⟨e1, e2⟩ := do_none (show doS op (al, ah) (bl, bh) = none by unfold doS; rw [ea, eb]; simp [o10])
        rw [e1, e2]
        exact rdo_emB op al ah bl bh h1 (by omega) o10 w
  · have ea := em_yes (show ah < al by omega)
    obtain ⟨e1, e2⟩ := do_none (show doS op (al, ah) (bl, bh) = none by unfold doS; rw [ea]; simp)
    rw [e1, e2]
    exact rdo_emA op al ah bl bh (by omega) w
end Go.Proofs.Ytbepapbfohfdkaa

/- SpanDoes: Do against the document's answer. -/
namespace Go.Proofs.Ytbepapbfohfdkaa
open Go.RowKit Go.Lib Go.Sort

set_option maxHeartbeats 2000000 in
theorem spanDoes_any (op : Int) (a b : Sp) (_ho : Nm op) (ha : a.Ok) (hb' : b.Ok) (w : World) : Calls Try.prog 4 #[.int .i64 op, sv a, sv b] w fun e w' => e = .returned (.bool true) ∧ Below w.heap.size w w' := by
  have HD := Hid.mk' fun w => do_any op a b ha hb' w
  have HD' := Hid.mk' fun w => rdo_any op a b ha hb' w
  have HF := Hid.mk' fixed_any
  obtain ⟨al, ah⟩ := a
  obtain ⟨bl, bh⟩ := b
  generalize doB op (al, ah) (bl, bh) = k at *
  generalize doR op (al, ah) (bl, bh) = c at *
  obtain ⟨c1, c2⟩ := c
  clear ha hb' _ho
  have hb := fun (o1 o2 : Obj) => (Below.one (Below.one (Below.refl _ w) o1) o2 : Below w.heap.size w _)
  have hg := eqGuard_s
  have q1 := fun w => equalIn_T (rfl : (c1, c2) = (c1, c2)) w
  go_enter Try.func4, Try.ntmps4
  go_upto_region 2 with (go_at_call 20; refine (HD.out _).mono ?_; rintro e w1 ⟨rfl, hb1⟩)
  have A0 := (At.stay (At.more (At.new w (al, ah)) _) hb1).more (.cells #[.int .i64 c1, .int .i64 c2] 23)
  have A1 := (At.stay (At.new1 w (bl, bh) _) hb1).more (.cells #[.int .i64 c1, .int .i64 c2] 23)
  have A2 := At.new w1 (c1, c2)
  have B := Below.one (Below.on (hb _ _) hb1) (.cells #[.int .i64 c1, .int .i64 c2] 23)
  simp only at A2
  clear hb hb1 HD
  generalize w1.alloc (.cells #[.int .i64 c1, .int .i64 c2] 23) = W1 at *
  generalize w1.heap.size = g at *
  have x0 := A0.c0; have x1 := A0.c1; have y0 := A1.c0; have y1 := A1.c1
  go_upto_region 3 with (go_at_call 21; refine (HD'.out _).mono ?_; rintro e w2 ⟨rfl, hb2⟩)
  replace A2 := A2.on (.cells #[.int .i64 c1, .int .i64 c2] 23) hb2
  have A3 := At.new w2 (c1, c2)
  replace B := Below.one (Below.on B hb2) (.cells #[.int .i64 c1, .int .i64 c2] 23)
  simp only at A3
  clear hb2 HD' x0 x1 y0 y1 A0 A1
  generalize w2.alloc (.cells #[.int .i64 c1, .int .i64 c2] 23) = W2 at *
  generalize w2.heap.size = g2 at *
  go_wp2_with (go_at_call 11; refine (HF.out _).mono ?_; rintro e w3 ⟨rfl, hb3⟩; have D2 := A2.stay hb3; have D3 := A3.stay hb3; have u0 := D2.c0; have u1 := D2.c1; have v0 := D3.c0; have v1 := D3.c1)
  go_ret
  exact ⟨rfl, Below.on B hb3⟩
end Go.Proofs.Ytbepapbfohfdkaa
