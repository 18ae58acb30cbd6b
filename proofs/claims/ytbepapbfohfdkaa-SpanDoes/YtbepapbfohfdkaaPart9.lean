/- The document's own Do: sums and differences. -/
import Derived.Test.YtbepapbfohfdkaaPart7
import Derived.Test.YtbepapbfohfdkaaPart8
import Derived.Test.YtbepapbfohfdkaaPart3
import Derived.Test.YtbepapbfohfdkaaPart6
import Derived.Test.YtbepapbfohfdkaaPart5
namespace Go.Proofs.Ytbepapbfohfdkaa
open Go.RowKit Go.Lib Go.Sort

theorem ths_four {W : World} {g : Nat} {x y z u : Int} {t : TypeId} (h : W.heap[g]? = some (.cells #[.int .i64 x, .int .i64 y, .int .i64 z, .int .i64 u] t)) : Ths W (some ⟨g, 0, none⟩) [x, y, z, u] := by
  intro i cs hi
  refine ⟨g, 0, rfl, fun j v hj => ?_⟩
  match i, hi with
  | 0, hi =>
    simp at hi; subst hi
    match j, hj with
    | 0, hj => simp at hj; subst hj; rw [Lib.cell_of_heap h]; rfl
  | 1, hi =>
    simp at hi; subst hi
    match j, hj with
    | 0, hj => simp at hj; subst hj; rw [Lib.cell_of_heap h]; rfl
  | 2, hi =>
    simp at hi; subst hi
    match j, hj with
    | 0, hj => simp at hj; subst hj; rw [Lib.cell_of_heap h]; rfl
  | 3, hi =>
    simp at hi; subst hi
    match j, hj with
    | 0, hj => simp at hj; subst hj; rw [Lib.cell_of_heap h]; rfl
theorem rends2 (x y : Int) (w : World) : Calls Try.prog 41 #[.slice (some ⟨w.heap.size, 0, none⟩) 2 2, .bool true] (w.alloc (.cells #[.int .i64 x, .int .i64 y] 2)) fun e w' => e = .returned (sv (hull [x, y])) ∧ Below (w.alloc (.cells #[.int .i64 x, .int .i64 y] 2)).heap.size (w.alloc (.cells #[.int .i64 x, .int .i64 y] 2)) w' :=
  rends_yes [x, y] (some ⟨w.heap.size, 0, none⟩) 2 (by simp) (by simp) _ (ths_block (heap_alloc_new _ _))
theorem rends4 (x y z u : Int) (w : World) : Calls Try.prog 41 #[.slice (some ⟨w.heap.size, 0, none⟩) 4 4, .bool true] (w.alloc (.cells #[.int .i64 x, .int .i64 y, .int .i64 z, .int .i64 u] 2)) fun e w' => e = .returned (sv (hull [x, y, z, u])) ∧ Below (w.alloc (.cells #[.int .i64 x, .int .i64 y, .int .i64 z, .int .i64 u] 2)).heap.size (w.alloc (.cells #[.int .i64 x, .int .i64 y, .int .i64 z, .int .i64 u] 2)) w' :=
  rends_yes [x, y, z, u] (some ⟨w.heap.size, 0, none⟩) 4 (by simp) (by simp) _ (ths_four (heap_alloc_new _ _))
set_option maxRecDepth 100000 in
set_option maxHeartbeats 2000000 in
theorem rdo_n3 (al ah bl bh : Int) (h1 : al ≤ ah) (h2 : bl ≤ bh) (ha : Sp.Ok (al, ah)) (hb' : Sp.Ok (bl, bh)) (hs : ¬ (al = ah ∧ bl = bh)) (w : World) : Calls Try.prog 21 #[.int .i64 3, sv (al, ah), sv (bl, bh)] w fun e w' => e = .returned (.tuple #[sv (sumS (al, ah) (bl, bh)), .bool true]) ∧ Below w.heap.size w w' := by
  have HEa : Hid (∀ w, Calls Try.prog 30 #[.agg #[.int .i64 al, .int .i64 ah]] w fun e w' => e = .returned (.bool false) ∧ Below w.heap.size w w') := noF h1
  have HEb : Hid (∀ w, Calls Try.prog 30 #[.agg #[.int .i64 bl, .int .i64 bh]] w fun e w' => e = .returned (.bool false) ∧ Below w.heap.size w w') := noF h2
  have hb := fun (o1 o2 o3 : Obj) => (Below.one (Below.one (Below.one (Below.refl _ w) o1) o2) o3 : Below w.heap.size w _)
  have H1 := Hid.mk' (rsum_any al bl ha.1 hb'.1)
  have H2 := Hid.mk' (rsum_any ah bh ha.2 hb'.2)
  have HA := Hid.mk' fun a m c w => rends_no a m c w
  have HE := Hid.mk' fun w => rends2 (fz (al + bl)) (fz (ah + bh)) w
  have HY : Hid (fitB (al + bl) = true → fitB (ah + bh) = true → hull [fz (al + bl), fz (ah + bh)] = sumS (al, ah) (bl, bh)) := fun f1 f2 => by
    have n1 : Nm (al + bl) := of_decide_eq_true f1
    have n2 : Nm (ah + bh) := of_decide_eq_true f2
    rw [(fz_yes n1).1, (fz_yes n2).1, hull_pair (by omega)]
    unfold sumS setS
    simp only
    rw [f1, f2, wr_id n1, wr_id n2]
    rfl
  have HN : Hid (¬ (fitB (al + bl) = true ∧ fitB (ah + bh) = true) → sumS (al, ah) (bl, bh) = allS) := fun hf => by
    unfold sumS setS
    simp only
    rw [if_neg]
    intro h
    simp [sgB] at h
    rcases h with h | h
    · exact hf h
    · exact hs h
  generalize sumS (al, ah) (bl, bh) = R at *
  obtain ⟨R1, R2⟩ := R
  generalize fz (al + bl) = z1 at *
  generalize fz (ah + bh) = z2 at *
  generalize fitB (al + bl) = f1 at *
  generalize fitB (ah + bh) = f2 at *
  clear ha hb'
  clear h1 h2
  go_enter Try.func21, Try.ntmps21
  go_upto_region 7 with (first | (go_at_call_of 30 (Value.agg #[Value.int .i64 al, Value.int .i64 ah]); refine (HEa.out _).mono ?_; rintro e w1 ⟨rfl, hb1⟩; have A0 := At.stay (At.more (At.more (At.new w (al, ah)) _) _) hb1; have A1 := At.stay (At.more (At.new1 w (bl, bh) _) _) hb1; have A2 := At.stay (At.new2 w (0, 0) _ _) hb1; have x0 := A0.c0; have x1 := A0.c1; have y0 := A1.c0; have y1 := A1.c1; have z0 := A2.c0; have z1 := A2.c1; have z2 := A2.f0; have z3 := A2.f1) | (go_at_call_of 30 (Value.agg #[Value.int .i64 bl, Value.int .i64 bh]); refine (HEb.out _).mono ?_; rintro e w2 ⟨rfl, hb2⟩; have D0 := A0.stay hb2; have D1 := A1.stay hb2; have D2 := A2.stay hb2; have u0 := D0.c0; have u1 := D0.c1; have v0 := D1.c0; have v1 := D1.c1; have t0 := D2.c0; have t1 := D2.c1; have t2 := D2.f0; have t3 := D2.f1))
  have BB := Below.on (Below.on (hb _ _ _) hb1) hb2
  clear x0 x1 y0 y1 z0 z1 z2 z3 t0 t1 t2 t3 A0 A1 A2 hb hb1 hb2 HEa HEb u0 u1
  go_cut [8] from 49 to 56 (fun t wx => t = .bool (bl == 0 && bh == 0) ∧ At wx w.heap.size (al, ah) ∧ At wx (w.heap.size + 1) (bl, bh) ∧ At wx (w.heap.size + 1 + 1) (0, 0) ∧ Below w.heap.size w wx)
  case first =>
    by_cases z : bl = 0
    · have zb : (bl == 0) = true := by simp [z]
      clear z
      go_wp2_with fail
      go_meet
      case rel => exact ⟨by simp [zb], D0, D1, D2, BB⟩
    · have zb := beq_no z
      clear z
      go_wp2_with fail
      go_meet
      case rel => exact ⟨by simp [zb], D0, D1, D2, BB⟩
  case rest =>
    clear v0 v1 D0 D1 D2 BB
    obtain ⟨rfl, D0, D1, D2, BB⟩ := hcut
    have u0 := D0.c0; have u1 := D0.c1; have v0 := D1.c0; have v1 := D1.c1
    go_upto_region 8 with fail
    go_cut [80] from 57 to 80 (fun t wx => t = .bool false ∧ At wx w.heap.size (al, ah) ∧ At wx (w.heap.size + 1) (bl, bh) ∧ At wx (w.heap.size + 1 + 1) (0, 0) ∧ Below w.heap.size w wx)
    case first =>
      by_cases s1 : al = ah
      · have s1' : (al == ah) = true := by simp [s1]
        by_cases s2 : bl = bh
        · exact absurd ⟨s1, s2⟩ hs
        · have s2' := beq_no s2
          clear s1 s2
          go_wp2_with fail
          go_meet
          case rel => exact ⟨by simp [*], D0, D1, D2, BB⟩
      · have s1' := beq_no s1
        clear s1
        go_wp2_with fail
        go_meet
        case rel => exact ⟨by simp [*], D0, D1, D2, BB⟩
    case rest =>
      clear u0 u1 v0 v1 D0 D1 D2 BB
      obtain ⟨rfl, D0, D1, D2, BB⟩ := hcut
      have u0 := D0.c0; have u1 := D0.c1; have v0 := D1.c0; have v1 := D1.c1; have t0 := D2.c0; have t1 := D2.c1; have t2 := D2.f0; have t3 := D2.f1
      simp only at u0 u1 v0 v1 t0 t1
      cases f1
      · skip
        have hR := HN.out (by simp)
        obtain ⟨rfl, rfl⟩ := Prod.mk.inj hR
        clear hR HN HY
        go_wp2_with (first | (go_at_call_of 40 (Value.int .i64 al); refine (H1.out _).mono ?_; rintro e w5 ⟨rfl, hw5⟩; rw [hw5]; clear hw5) | (go_at_call_of 40 (Value.int .i64 ah); refine (H2.out _).mono ?_; rintro e w5 ⟨rfl, hw5⟩; rw [hw5]; clear hw5) | (go_at_call 41; refine (HA.out _ _ _ _).mono ?_; rintro e w6 ⟨rfl, hb6⟩; have E2 := (D2.more _).stay hb6; have s0 := E2.c0; have s1 := E2.c1; have s2 := E2.f0; have s3 := E2.f1))
        exact bodyPost_ret (v := .tuple #[sv allS, .bool true]) (by simp [results, Try.results21, go_sem, allS, *]) rfl ⟨rfl, Below.put (Below.on (Below.one BB _) hb6) (by omega) _ _⟩
      · cases f2
        · skip
          have hR := HN.out (by simp)
          obtain ⟨rfl, rfl⟩ := Prod.mk.inj hR
          clear hR HN HY
          go_wp2_with (first | (go_at_call_of 40 (Value.int .i64 al); refine (H1.out _).mono ?_; rintro e w5 ⟨rfl, hw5⟩; rw [hw5]; clear hw5) | (go_at_call_of 40 (Value.int .i64 ah); refine (H2.out _).mono ?_; rintro e w5 ⟨rfl, hw5⟩; rw [hw5]; clear hw5) | (go_at_call 41; refine (HA.out _ _ _ _).mono ?_; rintro e w6 ⟨rfl, hb6⟩; have E2 := (D2.more _).stay hb6; have s0 := E2.c0; have s1 := E2.c1; have s2 := E2.f0; have s3 := E2.f1))
          exact bodyPost_ret (v := .tuple #[sv allS, .bool true]) (by simp [results, Try.results21, go_sem, allS, *]) rfl ⟨rfl, Below.put (Below.on (Below.one BB _) hb6) (by omega) _ _⟩
        · skip
          have hR := HY.out rfl rfl
          rw [hR] at HE
          clear hR HN HY
          go_wp2_with (first | (go_at_call_of 40 (Value.int .i64 al); refine (H1.out _).mono ?_; rintro e w5 ⟨rfl, hw5⟩; rw [hw5]; clear hw5) | (go_at_call_of 40 (Value.int .i64 ah); refine (H2.out _).mono ?_; rintro e w5 ⟨rfl, hw5⟩; rw [hw5]; clear hw5) | (go_at_call 41; refine (HE.out _).mono ?_; rintro e w6 ⟨rfl, hb6⟩; have E2 := (D2.more _).stay hb6; have s0 := E2.c0; have s1 := E2.c1; have s2 := E2.f0; have s3 := E2.f1))
          exact bodyPost_ret (v := .tuple #[sv (R1, R2), .bool true]) (by simp [results, Try.results21, go_sem, *]) rfl ⟨rfl, Below.put (Below.on (Below.one BB _) hb6) (by omega) _ _⟩
set_option maxRecDepth 100000 in
set_option maxHeartbeats 2000000 in
theorem rdo_n4 (al ah bl bh : Int) (h1 : al ≤ ah) (h2 : bl ≤ bh) (ha : Sp.Ok (al, ah)) (hb' : Sp.Ok (bl, bh)) (hs : ¬ (al = ah ∧ bl = bh)) (w : World) : Calls Try.prog 21 #[.int .i64 4, sv (al, ah), sv (bl, bh)] w fun e w' => e = .returned (.tuple #[sv (difS (al, ah) (bl, bh)), .bool true]) ∧ Below w.heap.size w w' := by
  have HEa : Hid (∀ w, Calls Try.prog 30 #[.agg #[.int .i64 al, .int .i64 ah]] w fun e w' => e = .returned (.bool false) ∧ Below w.heap.size w w') := noF h1
  have HEb : Hid (∀ w, Calls Try.prog 30 #[.agg #[.int .i64 bl, .int .i64 bh]] w fun e w' => e = .returned (.bool false) ∧ Below w.heap.size w w') := noF h2
  have hb := fun (o1 o2 o3 : Obj) => (Below.one (Below.one (Below.one (Below.refl _ w) o1) o2) o3 : Below w.heap.size w _)
  have H1 := Hid.mk' (rless_any al bh ha.1 hb'.2)
  have H2 := Hid.mk' (rless_any ah bl ha.2 hb'.1)
  have HA := Hid.mk' fun a m c w => rends_no a m c w
  have HE := Hid.mk' fun w => rends2 (fz (al - bh)) (fz (ah - bl)) w
  have HY : Hid (fitB (al - bh) = true → fitB (ah - bl) = true → hull [fz (al - bh), fz (ah - bl)] = difS (al, ah) (bl, bh)) := fun f1 f2 => by
    have n1 : Nm (al - bh) := of_decide_eq_true f1
    have n2 : Nm (ah - bl) := of_decide_eq_true f2
    rw [(fz_yes n1).1, (fz_yes n2).1, hull_pair (by omega)]
    unfold difS setS
    simp only
    rw [f1, f2, wr_id n1, wr_id n2]
    rfl
  have HN : Hid (¬ (fitB (al - bh) = true ∧ fitB (ah - bl) = true) → difS (al, ah) (bl, bh) = allS) := fun hf => by
    unfold difS setS
    simp only
    rw [if_neg]
    intro h
    simp [sgB] at h
    rcases h with h | h
    · exact hf h
    · exact hs h
  generalize difS (al, ah) (bl, bh) = R at *
  obtain ⟨R1, R2⟩ := R
  generalize fz (al - bh) = z1 at *
  generalize fz (ah - bl) = z2 at *
  generalize fitB (al - bh) = f1 at *
  generalize fitB (ah - bl) = f2 at *
  clear ha hb'
  clear h1 h2
  go_enter Try.func21, Try.ntmps21
  go_upto_region 7 with (first | (go_at_call_of 30 (Value.agg #[Value.int .i64 al, Value.int .i64 ah]); refine (HEa.out _).mono ?_; rintro e w1 ⟨rfl, hb1⟩; have A0 := At.stay (At.more (At.more (At.new w (al, ah)) _) _) hb1; have A1 := At.stay (At.more (At.new1 w (bl, bh) _) _) hb1; have A2 := At.stay (At.new2 w (0, 0) _ _) hb1; have x0 := A0.c0; have x1 := A0.c1; have y0 := A1.c0; have y1 := A1.c1; have z0 := A2.c0; have z1 := A2.c1; have z2 := A2.f0; have z3 := A2.f1) | (go_at_call_of 30 (Value.agg #[Value.int .i64 bl, Value.int .i64 bh]); refine (HEb.out _).mono ?_; rintro e w2 ⟨rfl, hb2⟩; have D0 := A0.stay hb2; have D1 := A1.stay hb2; have D2 := A2.stay hb2; have u0 := D0.c0; have u1 := D0.c1; have v0 := D1.c0; have v1 := D1.c1; have t0 := D2.c0; have t1 := D2.c1; have t2 := D2.f0; have t3 := D2.f1))
  have BB := Below.on (Below.on (hb _ _ _) hb1) hb2
  clear x0 x1 y0 y1 z0 z1 z2 z3 t0 t1 t2 t3 A0 A1 A2 hb hb1 hb2 HEa HEb u0 u1
  go_cut [8] from 49 to 56 (fun t wx => t = .bool (bl == 0 && bh == 0) ∧ At wx w.heap.size (al, ah) ∧ At wx (w.heap.size + 1) (bl, bh) ∧ At wx (w.heap.size + 1 + 1) (0, 0) ∧ Below w.heap.size w wx)
  case first =>
    by_cases z : bl = 0
    · have zb : (bl == 0) = true := by simp [z]
      clear z
      go_wp2_with fail
      go_meet
      case rel => exact ⟨by simp [zb], D0, D1, D2, BB⟩
    · have zb := beq_no z
      clear z
      go_wp2_with fail
      go_meet
      case rel => exact ⟨by simp [zb], D0, D1, D2, BB⟩
  case rest =>
    clear v0 v1 D0 D1 D2 BB
    obtain ⟨rfl, D0, D1, D2, BB⟩ := hcut
    have u0 := D0.c0; have u1 := D0.c1; have v0 := D1.c0; have v1 := D1.c1
    go_upto_region 8 with fail
    go_cut [80] from 57 to 80 (fun t wx => t = .bool false ∧ At wx w.heap.size (al, ah) ∧ At wx (w.heap.size + 1) (bl, bh) ∧ At wx (w.heap.size + 1 + 1) (0, 0) ∧ Below w.heap.size w wx)
    case first =>
      by_cases s1 : al = ah
      · have s1' : (al == ah) = true := by simp [s1]
        by_cases s2 : bl = bh
        · exact absurd ⟨s1, s2⟩ hs
        · have s2' := beq_no s2
          clear s1 s2
          go_wp2_with fail
          go_meet
          case rel => exact ⟨by simp [*], D0, D1, D2, BB⟩
      · have s1' := beq_no s1
        clear s1
        go_wp2_with fail
        go_meet
        case rel => exact ⟨by simp [*], D0, D1, D2, BB⟩
    case rest =>
      clear u0 u1 v0 v1 D0 D1 D2 BB
      obtain ⟨rfl, D0, D1, D2, BB⟩ := hcut
      have u0 := D0.c0; have u1 := D0.c1; have v0 := D1.c0; have v1 := D1.c1; have t0 := D2.c0; have t1 := D2.c1; have t2 := D2.f0; have t3 := D2.f1
      simp only at u0 u1 v0 v1 t0 t1
      cases f1
      · skip
        have hR := HN.out (by simp)
        obtain ⟨rfl, rfl⟩ := Prod.mk.inj hR
        clear hR HN HY
        go_wp2_with (first | (go_at_call_of 42 (Value.int .i64 al); refine (H1.out _).mono ?_; rintro e w5 ⟨rfl, hw5⟩; rw [hw5]; clear hw5) | (go_at_call_of 42 (Value.int .i64 ah); refine (H2.out _).mono ?_; rintro e w5 ⟨rfl, hw5⟩; rw [hw5]; clear hw5) | (go_at_call 41; refine (HA.out _ _ _ _).mono ?_; rintro e w6 ⟨rfl, hb6⟩; have E2 := (D2.more _).stay hb6; have s0 := E2.c0; have s1 := E2.c1; have s2 := E2.f0; have s3 := E2.f1))
        exact bodyPost_ret (v := .tuple #[sv allS, .bool true]) (by simp [results, Try.results21, go_sem, allS, *]) rfl ⟨rfl, Below.put (Below.on (Below.one BB _) hb6) (by omega) _ _⟩
      · cases f2
        · skip
          have hR := HN.out (by simp)
          obtain ⟨rfl, rfl⟩ := Prod.mk.inj hR
          clear hR HN HY
          go_wp2_with (first | (go_at_call_of 42 (Value.int .i64 al); refine (H1.out _).mono ?_; rintro e w5 ⟨rfl, hw5⟩; rw [hw5]; clear hw5) | (go_at_call_of 42 (Value.int .i64 ah); refine (H2.out _).mono ?_; rintro e w5 ⟨rfl, hw5⟩; rw [hw5]; clear hw5) | (go_at_call 41; refine (HA.out _ _ _ _).mono ?_; rintro e w6 ⟨rfl, hb6⟩; have E2 := (D2.more _).stay hb6; have s0 := E2.c0; have s1 := E2.c1; have s2 := E2.f0; have s3 := E2.f1))
          exact bodyPost_ret (v := .tuple #[sv allS, .bool true]) (by simp [results, Try.results21, go_sem, allS, *]) rfl ⟨rfl, Below.put (Below.on (Below.one BB _) hb6) (by omega) _ _⟩
        · skip
          have hR := HY.out rfl rfl
          rw [hR] at HE
          clear hR HN HY
          go_wp2_with (first | (go_at_call_of 42 (Value.int .i64 al); refine (H1.out _).mono ?_; rintro e w5 ⟨rfl, hw5⟩; rw [hw5]; clear hw5) | (go_at_call_of 42 (Value.int .i64 ah); refine (H2.out _).mono ?_; rintro e w5 ⟨rfl, hw5⟩; rw [hw5]; clear hw5) | (go_at_call 41; refine (HE.out _).mono ?_; rintro e w6 ⟨rfl, hb6⟩; have E2 := (D2.more _).stay hb6; have s0 := E2.c0; have s1 := E2.c1; have s2 := E2.f0; have s3 := E2.f1))
          exact bodyPost_ret (v := .tuple #[sv (R1, R2), .bool true]) (by simp [results, Try.results21, go_sem, *]) rfl ⟨rfl, Below.put (Below.on (Below.one BB _) hb6) (by omega) _ _⟩
end Go.Proofs.Ytbepapbfohfdkaa

/- The document's own Do: products. -/
namespace Go.Proofs.Ytbepapbfohfdkaa
open Go.RowKit Go.Lib Go.Sort

set_option maxRecDepth 100000 in
set_option maxHeartbeats 2000000 in
theorem rdo_n5 (al ah bl bh : Int) (h1 : al ≤ ah) (h2 : bl ≤ bh) (ha : Sp.Ok (al, ah)) (hb' : Sp.Ok (bl, bh)) (hs : ¬ (al = ah ∧ bl = bh)) (w : World) : Calls Try.prog 21 #[.int .i64 5, sv (al, ah), sv (bl, bh)] w fun e w' => e = .returned (.tuple #[sv (proS (al, ah) (bl, bh)), .bool true]) ∧ Below w.heap.size w w' := by
  have HEa : Hid (∀ w, Calls Try.prog 30 #[.agg #[.int .i64 al, .int .i64 ah]] w fun e w' => e = .returned (.bool false) ∧ Below w.heap.size w w') := noF h1
  have HEb : Hid (∀ w, Calls Try.prog 30 #[.agg #[.int .i64 bl, .int .i64 bh]] w fun e w' => e = .returned (.bool false) ∧ Below w.heap.size w w') := noF h2
  have hb := fun (o1 o2 o3 : Obj) => (Below.one (Below.one (Below.one (Below.refl _ w) o1) o2) o3 : Below w.heap.size w _)
  have H1 := Hid.mk' (rproduct_any al bl ha.1 hb'.1)
  have H2 := Hid.mk' (rproduct_any al bh ha.1 hb'.2)
  have H3 := Hid.mk' (rproduct_any ah bl ha.2 hb'.1)
  have H4 := Hid.mk' (rproduct_any ah bh ha.2 hb'.2)
  have HA := Hid.mk' fun a m c w => rends_no a m c w
  have HE := Hid.mk' fun w => rends4 (pz al bl) (pz al bh) (pz ah bl) (pz ah bh) w
  have HY : Hid (fitB (al * bl) = true ∧ fitB (al * bh) = true ∧ fitB (ah * bl) = true ∧ fitB (ah * bh) = true → hull [pz al bl, pz al bh, pz ah bl, pz ah bh] = proS (al, ah) (bl, bh)) := fun ⟨f1, f2, f3, f4⟩ => by
    rw [pz_fit (of_decide_eq_true f1), pz_fit (of_decide_eq_true f2), pz_fit (of_decide_eq_true f3), pz_fit (of_decide_eq_true f4)]
    have hall : (corners (al, ah) (bl, bh)).all fitB = true := by simp [corners, f1, f2, f3, f4]
    unfold proS setS
    rw [hall, (pro_nm hall).1]
    rfl
  have HN : Hid (¬ (fitB (al * bl) = true ∧ fitB (al * bh) = true ∧ fitB (ah * bl) = true ∧ fitB (ah * bh) = true) → proS (al, ah) (bl, bh) = allS) := fun hf => by
    unfold proS setS
    rw [if_neg]
    intro h
    simp [sgB, corners] at h
    rcases h with h | h
    · exact hf h
    · exact hs h
  generalize proS (al, ah) (bl, bh) = R at *
  obtain ⟨R1, R2⟩ := R
  generalize pz al bl = z1 at *
  generalize fitB (al * bl) = f1 at *
  generalize pz al bh = z2 at *
  generalize fitB (al * bh) = f2 at *
  generalize pz ah bl = z3 at *
  generalize fitB (ah * bl) = f3 at *
  generalize pz ah bh = z4 at *
  generalize fitB (ah * bh) = f4 at *
  clear ha hb'
  clear h1 h2
  go_enter Try.func21, Try.ntmps21
  go_upto_region 7 with (first | (go_at_call_of 30 (Value.agg #[Value.int .i64 al, Value.int .i64 ah]); refine (HEa.out _).mono ?_; rintro e w1 ⟨rfl, hb1⟩; have A0 := At.stay (At.more (At.more (At.new w (al, ah)) _) _) hb1; have A1 := At.stay (At.more (At.new1 w (bl, bh) _) _) hb1; have A2 := At.stay (At.new2 w (0, 0) _ _) hb1; have x0 := A0.c0; have x1 := A0.c1; have y0 := A1.c0; have y1 := A1.c1; have z0 := A2.c0; have z1 := A2.c1; have z2 := A2.f0; have z3 := A2.f1) | (go_at_call_of 30 (Value.agg #[Value.int .i64 bl, Value.int .i64 bh]); refine (HEb.out _).mono ?_; rintro e w2 ⟨rfl, hb2⟩; have D0 := A0.stay hb2; have D1 := A1.stay hb2; have D2 := A2.stay hb2; have u0 := D0.c0; have u1 := D0.c1; have v0 := D1.c0; have v1 := D1.c1; have t0 := D2.c0; have t1 := D2.c1; have t2 := D2.f0; have t3 := D2.f1))
  have BB := Below.on (Below.on (hb _ _ _) hb1) hb2
  clear x0 x1 y0 y1 z0 z1 z2 z3 t0 t1 t2 t3 A0 A1 A2 hb hb1 hb2 HEa HEb u0 u1
  go_cut [8] from 49 to 56 (fun t wx => t = .bool (bl == 0 && bh == 0) ∧ At wx w.heap.size (al, ah) ∧ At wx (w.heap.size + 1) (bl, bh) ∧ At wx (w.heap.size + 1 + 1) (0, 0) ∧ Below w.heap.size w wx)
  case first =>
    by_cases z : bl = 0
    · have zb : (bl == 0) = true := by simp [z]
      clear z
      go_wp2_with fail
      go_meet
      case rel => exact ⟨by simp [zb], D0, D1, D2, BB⟩
    · have zb := beq_no z
      clear z
      go_wp2_with fail
      go_meet
      case rel => exact ⟨by simp [zb], D0, D1, D2, BB⟩
  case rest =>
    clear v0 v1 D0 D1 D2 BB
    obtain ⟨rfl, D0, D1, D2, BB⟩ := hcut
    have u0 := D0.c0; have u1 := D0.c1; have v0 := D1.c0; have v1 := D1.c1
    go_upto_region 8 with fail
    go_cut [80] from 57 to 80 (fun t wx => t = .bool false ∧ At wx w.heap.size (al, ah) ∧ At wx (w.heap.size + 1) (bl, bh) ∧ At wx (w.heap.size + 1 + 1) (0, 0) ∧ Below w.heap.size w wx)
    case first =>
      by_cases s1 : al = ah
      · have s1' : (al == ah) = true := by simp [s1]
        by_cases s2 : bl = bh
        · exact absurd ⟨s1, s2⟩ hs
        · have s2' := beq_no s2
          clear s1 s2
          go_wp2_with fail
          go_meet
          case rel => exact ⟨by simp [*], D0, D1, D2, BB⟩
      · have s1' := beq_no s1
        clear s1
        go_wp2_with fail
        go_meet
        case rel => exact ⟨by simp [*], D0, D1, D2, BB⟩
    case rest =>
      clear u0 u1 v0 v1 D0 D1 D2 BB
      obtain ⟨rfl, D0, D1, D2, BB⟩ := hcut
      have u0 := D0.c0; have u1 := D0.c1; have v0 := D1.c0; have v1 := D1.c1; have t0 := D2.c0; have t1 := D2.c1; have t2 := D2.f0; have t3 := D2.f1
      simp only at u0 u1 v0 v1 t0 t1
      go_upto_region 22 with (go_at_call 43; refine (H1.out _).mono ?_; rintro e w11 ⟨rfl, hb11⟩)
      replace D0 := D0.stay hb11
      replace D1 := D1.stay hb11
      replace D2 := D2.stay hb11
      replace BB := Below.on BB hb11
      clear u0 u1 v0 v1 t0 t1 t2 t3 hb11 H1
      have u0 := D0.c0; have u1 := D0.c1; have v0 := D1.c0; have v1 := D1.c1; have t0 := D2.c0; have t1 := D2.c1; have t2 := D2.f0; have t3 := D2.f1
      simp only at u0 u1 v0 v1 t0 t1
      go_upto_region 23 with (go_at_call 43; refine (H2.out _).mono ?_; rintro e w12 ⟨rfl, hb12⟩)
      replace D0 := D0.stay hb12
      replace D1 := D1.stay hb12
      replace D2 := D2.stay hb12
      replace BB := Below.on BB hb12
      clear u0 u1 v0 v1 t0 t1 t2 t3 hb12 H2
      have u0 := D0.c0; have u1 := D0.c1; have v0 := D1.c0; have v1 := D1.c1; have t0 := D2.c0; have t1 := D2.c1; have t2 := D2.f0; have t3 := D2.f1
      simp only at u0 u1 v0 v1 t0 t1
      go_upto_region 24 with (go_at_call 43; refine (H3.out _).mono ?_; rintro e w13 ⟨rfl, hb13⟩)
      replace D0 := D0.stay hb13
      replace D1 := D1.stay hb13
      replace D2 := D2.stay hb13
      replace BB := Below.on BB hb13
      clear u0 u1 v0 v1 t0 t1 t2 t3 hb13 H3
      have u0 := D0.c0; have u1 := D0.c1; have v0 := D1.c0; have v1 := D1.c1; have t0 := D2.c0; have t1 := D2.c1; have t2 := D2.f0; have t3 := D2.f1
      simp only at u0 u1 v0 v1 t0 t1
      go_upto_region 25 with (go_at_call 43; refine (H4.out _).mono ?_; rintro e w14 ⟨rfl, hb14⟩)
      replace D0 := D0.stay hb14
      replace D1 := D1.stay hb14
      replace D2 := D2.stay hb14
      replace BB := Below.on BB hb14
      clear u0 u1 v0 v1 t0 t1 t2 t3 hb14 H4
      have u0 := D0.c0; have u1 := D0.c1; have v0 := D1.c0; have v1 := D1.c1; have t0 := D2.c0; have t1 := D2.c1; have t2 := D2.f0; have t3 := D2.f1
      simp only at u0 u1 v0 v1 t0 t1
      cases f1
      · skip
        have hR := HN.out (by simp)
        obtain ⟨rfl, rfl⟩ := Prod.mk.inj hR
        clear hR HN HY
        go_wp2_with (go_at_call 41; refine (HA.out _ _ _ _).mono ?_; rintro e w6 ⟨rfl, hb6⟩; have E2 := (D2.more _).stay hb6; have s0 := E2.c0; have s1 := E2.c1; have s2 := E2.f0; have s3 := E2.f1)
        exact bodyPost_ret (v := .tuple #[sv allS, .bool true]) (by simp [results, Try.results21, go_sem, allS, *]) rfl ⟨rfl, Below.put (Below.on (Below.one BB _) hb6) (by omega) _ _⟩
      · skip
        cases f2
        · skip
          have hR := HN.out (by simp)
          obtain ⟨rfl, rfl⟩ := Prod.mk.inj hR
          clear hR HN HY
          go_wp2_with (go_at_call 41; refine (HA.out _ _ _ _).mono ?_; rintro e w6 ⟨rfl, hb6⟩; have E2 := (D2.more _).stay hb6; have s0 := E2.c0; have s1 := E2.c1; have s2 := E2.f0; have s3 := E2.f1)
          exact bodyPost_ret (v := .tuple #[sv allS, .bool true]) (by simp [results, Try.results21, go_sem, allS, *]) rfl ⟨rfl, Below.put (Below.on (Below.one BB _) hb6) (by omega) _ _⟩
        · skip
          cases f3
          · skip
            have hR := HN.out (by simp)
            obtain ⟨rfl, rfl⟩ := Prod.mk.inj hR
            clear hR HN HY
            go_wp2_with (go_at_call 41; refine (HA.out _ _ _ _).mono ?_; rintro e w6 ⟨rfl, hb6⟩; have E2 := (D2.more _).stay hb6; have s0 := E2.c0; have s1 := E2.c1; have s2 := E2.f0; have s3 := E2.f1)
            exact bodyPost_ret (v := .tuple #[sv allS, .bool true]) (by simp [results, Try.results21, go_sem, allS, *]) rfl ⟨rfl, Below.put (Below.on (Below.one BB _) hb6) (by omega) _ _⟩
          · skip
            cases f4
            · skip
              have hR := HN.out (by simp)
              obtain ⟨rfl, rfl⟩ := Prod.mk.inj hR
              clear hR HN HY
              go_wp2_with (go_at_call 41; refine (HA.out _ _ _ _).mono ?_; rintro e w6 ⟨rfl, hb6⟩; have E2 := (D2.more _).stay hb6; have s0 := E2.c0; have s1 := E2.c1; have s2 := E2.f0; have s3 := E2.f1)
              exact bodyPost_ret (v := .tuple #[sv allS, .bool true]) (by simp [results, Try.results21, go_sem, allS, *]) rfl ⟨rfl, Below.put (Below.on (Below.one BB _) hb6) (by omega) _ _⟩
            · skip
              have hR := HY.out ⟨rfl, rfl, rfl, rfl⟩
              rw [hR] at HE
              clear hR HN HY
              go_wp2_with (go_at_call 41; refine (HE.out _).mono ?_; rintro e w6 ⟨rfl, hb6⟩; have E2 := (D2.more _).stay hb6; have s0 := E2.c0; have s1 := E2.c1; have s2 := E2.f0; have s3 := E2.f1)
              exact bodyPost_ret (v := .tuple #[sv (R1, R2), .bool true]) (by simp [results, Try.results21, go_sem, *]) rfl ⟨rfl, Below.put (Below.on (Below.one BB _) hb6) (by omega) _ _⟩
end Go.Proofs.Ytbepapbfohfdkaa

/- The document's own rests. -/
namespace Go.Proofs.Ytbepapbfohfdkaa
open Go.RowKit Go.Lib Go.Sort

set_option maxHeartbeats 4000000 in
theorem rrests_any (a b : Sp) (ha : a.Ok) (hb' : b.Ok) (hle : b.1 ≤ b.2) (h0 : b ≠ (0, 0)) (w : World) : Calls Try.prog 45 #[sv a, sv b] w fun e w' => e = .returned (sv (remS a b)) ∧ Below w.heap.size w w' := by
  obtain ⟨al, ah⟩ := a
  obtain ⟨bl, bh⟩ := b
  have h0' : bl ≠ 0 ∨ bh ≠ 0 := by
    by_cases e : bl = 0
    · exact .inr fun e2 => h0 (by rw [e, e2])
    · exact .inl e
  have hA1 := ha.1; have hA2 := ha.2; have hB1 := hb'.1; have hB2 := hb'.2
  unfold Nm at hA1 hA2 hB1 hB2
  simp only at hA1 hA2 hB1 hB2 hle
  have HM : Hid (∀ M, (M = most (bl, bh)) → remS (al, ah) (bl, bh) = (min 0 (max al (-M)), max 0 (min ah M))) := by rintro M rfl; rfl
  have HD : Hid (most (bl, bh) = max (dis bl) (dis bh) - 1) := rfl
  have HG := Hid.mk' greater_any
  have HL := Hid.mk' lesser_any
  generalize remS (al, ah) (bl, bh) = R at *
  clear ha hb' h0
  have hb := fun (o1 o2 o3 : Obj) => (Below.one (Below.one (Below.one (Below.refl _ w) o1) o2) o3 : Below w.heap.size w _)
  go_enter Try.func45, Try.ntmps45
  go_upto_region 2 with fail
  have B := hb (.cells #[.int .i64 al, .int .i64 ah] 23) (.cells #[.int .i64 bl, .int .i64 bh] 23) (.cells #[.int .i64 0, .int .i64 0] 23)
  have A0 := At.more (At.more (At.new w (al, ah)) (.cells #[.int .i64 bl, .int .i64 bh] 23)) (.cells #[.int .i64 0, .int .i64 0] 23)
  have A1 := At.more (At.new1 w (bl, bh) (.cells #[.int .i64 al, .int .i64 ah] 23)) (.cells #[.int .i64 0, .int .i64 0] 23)
  have A2 := At.new2 w (0, 0) (.cells #[.int .i64 al, .int .i64 ah] 23) (.cells #[.int .i64 bl, .int .i64 bh] 23)
  have hsz : w.heap.size + 1 + 1 < (((w.alloc (.cells #[.int .i64 al, .int .i64 ah] 23)).alloc (.cells #[.int .i64 bl, .int .i64 bh] 23)).alloc (.cells #[.int .i64 0, .int .i64 0] 23)).heap.size := by simp
  clear hb
  simp only at A0 A1 A2
  generalize ((w.alloc (.cells #[.int .i64 al, .int .i64 ah] 23)).alloc (.cells #[.int .i64 bl, .int .i64 bh] 23)).alloc (.cells #[.int .i64 0, .int .i64 0] 23) = W at *
  have x0 := A1.c0; have x1 := A1.c1
  simp only at x0 x1
  have hcase : (bl < 0 ∧ 0 < bh) ∨ (bl < 0 ∧ bh = 0) ∨ (bl < 0 ∧ bh < 0) ∨ (bl = 0 ∧ 0 < bh) ∨ (0 < bl ∧ 0 < bh) := by omega
  rcases hcase with ⟨c1, c2⟩ | ⟨c1, c2⟩ | ⟨c1, c2⟩ | ⟨c1, c2⟩ | ⟨c1, c2⟩
  · go_upto_region 11 with (go_at_call 28; refine (HG.out _ _ _).mono ?_; rintro e w5 ⟨rfl, hw5⟩; rw [hw5]; clear hw5)
    obtain ⟨M, hM⟩ : ∃ M, M = max (-(bl + 1)) (bh - 1) := ⟨_, rfl⟩
    rw [← hM]
    have hR := HM.out M (by rw [hM, HD.out]; unfold dis; (repeat' split) <;> omega)
    have hM0 : 0 ≤ M ∧ M ≤ 9223372036854775807 := by omega
    replace A0 := A0.more (.cells #[.int .i64 0, .int .i64 0] 23)
    replace A2 := A2.more (.cells #[.int .i64 0, .int .i64 0] 23)
    have A3 := At.new W (0, 0)
    replace B := Below.one B (.cells #[.int .i64 0, .int .i64 0] 23)
    have HR := Hid.mk' hR
    simp only at A3
    clear hM HM HD h0' hle hB1 hB2 c1 c2 x0 x1 A1 hR
    generalize W.alloc (.cells #[.int .i64 0, .int .i64 0] 23) = W3 at *
    generalize W.heap.size = gO at *
    have n1 : ¬ w.heap.size = gO := by omega
    have n2 : ¬ gO = w.heap.size := by omega
    have n3 : ¬ w.heap.size + 1 + 1 = gO := by omega
    have n4 : ¬ gO = w.heap.size + 1 + 1 := by omega
    have z0 := A0.c0; have z1 := A0.c1; have y0 := A2.c0; have y1 := A2.c1; have y2 := A2.f0; have y3 := A2.f1; have u0 := A3.c0; have u1 := A3.c1; have u2 := A3.f0; have u3 := A3.f1
    simp only at z0 z1 y0 y1 u0 u1
    by_cases c3 : al < 0 <;> by_cases c4 : 0 < ah
    · go_wp2_with (first | (go_at_call 28; refine (HG.out _ _ _).mono ?_; rintro e w5 ⟨rfl, hw5⟩; rw [hw5]; clear hw5) | (go_at_call 29; refine (HL.out _ _ _).mono ?_; rintro e w5 ⟨rfl, hw5⟩; rw [hw5]; clear hw5))
      exact bodyPost_ret (v := sv R) (by rw [HR.out]; simp [results, Try.results45, go_sem, *] <;> omega) rfl ⟨rfl, Below.put ((B.setCell (by simp only; omega) _).setCell (by simp only; omega) _) (by omega) _ _⟩
    · go_wp2_with (go_at_call 28; refine (HG.out _ _ _).mono ?_; rintro e w5 ⟨rfl, hw5⟩; rw [hw5]; clear hw5)
      exact bodyPost_ret (v := sv R) (by rw [HR.out]; simp [results, Try.results45, go_sem, *] <;> omega) rfl ⟨rfl, Below.put (B.setCell (by simp only; omega) _) (by omega) _ _⟩
    · go_wp2_with (go_at_call 29; refine (HL.out _ _ _).mono ?_; rintro e w5 ⟨rfl, hw5⟩; rw [hw5]; clear hw5)
      exact bodyPost_ret (v := sv R) (by rw [HR.out]; simp [results, Try.results45, go_sem, *] <;> omega) rfl ⟨rfl, Below.put (B.setCell (by simp only; omega) _) (by omega) _ _⟩
    · go_wp2_with fail
      exact bodyPost_ret (v := sv R) (by rw [HR.out]; simp [results, Try.results45, go_sem, *] <;> omega) rfl ⟨rfl, Below.put B (by omega) _ _⟩
  · go_upto_region 11 with (go_at_call 28; refine (HG.out _ _ _).mono ?_; rintro e w5 ⟨rfl, hw5⟩; rw [hw5]; clear hw5)
    obtain ⟨M, hM⟩ : ∃ M, M = -(bl + 1) := ⟨_, rfl⟩
    rw [← hM]
    have hR := HM.out M (by rw [hM, HD.out]; unfold dis; (repeat' split) <;> omega)
    have hM0 : 0 ≤ M ∧ M ≤ 9223372036854775807 := by omega
    replace A0 := A0.more (.cells #[.int .i64 0, .int .i64 0] 23)
    replace A2 := A2.more (.cells #[.int .i64 0, .int .i64 0] 23)
    have A3 := At.new W (0, 0)
    replace B := Below.one B (.cells #[.int .i64 0, .int .i64 0] 23)
    have HR := Hid.mk' hR
    simp only at A3
    clear hM HM HD h0' hle hB1 hB2 c1 c2 x0 x1 A1 hR
    generalize W.alloc (.cells #[.int .i64 0, .int .i64 0] 23) = W3 at *
    generalize W.heap.size = gO at *
    have n1 : ¬ w.heap.size = gO := by omega
    have n2 : ¬ gO = w.heap.size := by omega
    have n3 : ¬ w.heap.size + 1 + 1 = gO := by omega
    have n4 : ¬ gO = w.heap.size + 1 + 1 := by omega
    have z0 := A0.c0; have z1 := A0.c1; have y0 := A2.c0; have y1 := A2.c1; have y2 := A2.f0; have y3 := A2.f1; have u0 := A3.c0; have u1 := A3.c1; have u2 := A3.f0; have u3 := A3.f1
    simp only at z0 z1 y0 y1 u0 u1
    by_cases c3 : al < 0 <;> by_cases c4 : 0 < ah
    · go_wp2_with (first | (go_at_call 28; refine (HG.out _ _ _).mono ?_; rintro e w5 ⟨rfl, hw5⟩; rw [hw5]; clear hw5) | (go_at_call 29; refine (HL.out _ _ _).mono ?_; rintro e w5 ⟨rfl, hw5⟩; rw [hw5]; clear hw5))
      exact bodyPost_ret (v := sv R) (by rw [HR.out]; simp [results, Try.results45, go_sem, *] <;> omega) rfl ⟨rfl, Below.put ((B.setCell (by simp only; omega) _).setCell (by simp only; omega) _) (by omega) _ _⟩
    · go_wp2_with (go_at_call 28; refine (HG.out _ _ _).mono ?_; rintro e w5 ⟨rfl, hw5⟩; rw [hw5]; clear hw5)
      exact bodyPost_ret (v := sv R) (by rw [HR.out]; simp [results, Try.results45, go_sem, *] <;> omega) rfl ⟨rfl, Below.put (B.setCell (by simp only; omega) _) (by omega) _ _⟩
    · go_wp2_with (go_at_call 29; refine (HL.out _ _ _).mono ?_; rintro e w5 ⟨rfl, hw5⟩; rw [hw5]; clear hw5)
      exact bodyPost_ret (v := sv R) (by rw [HR.out]; simp [results, Try.results45, go_sem, *] <;> omega) rfl ⟨rfl, Below.put (B.setCell (by simp only; omega) _) (by omega) _ _⟩
    · go_wp2_with fail
      exact bodyPost_ret (v := sv R) (by rw [HR.out]; simp [results, Try.results45, go_sem, *] <;> omega) rfl ⟨rfl, Below.put B (by omega) _ _⟩
  · go_upto_region 11 with (go_at_call 28; refine (HG.out _ _ _).mono ?_; rintro e w5 ⟨rfl, hw5⟩; rw [hw5]; clear hw5)
    obtain ⟨M, hM⟩ : ∃ M, M = -(min bl bh + 1) := ⟨_, rfl⟩
    rw [← hM]
    have hR := HM.out M (by rw [hM, HD.out]; unfold dis; (repeat' split) <;> omega)
    have hM0 : 0 ≤ M ∧ M ≤ 9223372036854775807 := by omega
    replace A0 := A0.more (.cells #[.int .i64 0, .int .i64 0] 23)
    replace A2 := A2.more (.cells #[.int .i64 0, .int .i64 0] 23)
    have A3 := At.new W (0, 0)
    replace B := Below.one B (.cells #[.int .i64 0, .int .i64 0] 23)
    have HR := Hid.mk' hR
    simp only at A3
    clear hM HM HD h0' hle hB1 hB2 c1 c2 x0 x1 A1 hR
    generalize W.alloc (.cells #[.int .i64 0, .int .i64 0] 23) = W3 at *
    generalize W.heap.size = gO at *
    have n1 : ¬ w.heap.size = gO := by omega
    have n2 : ¬ gO = w.heap.size := by omega
    have n3 : ¬ w.heap.size + 1 + 1 = gO := by omega
    have n4 : ¬ gO = w.heap.size + 1 + 1 := by omega
    have z0 := A0.c0; have z1 := A0.c1; have y0 := A2.c0; have y1 := A2.c1; have y2 := A2.f0; have y3 := A2.f1; have u0 := A3.c0; have u1 := A3.c1; have u2 := A3.f0; have u3 := A3.f1
    simp only at z0 z1 y0 y1 u0 u1
    by_cases c3 : al < 0 <;> by_cases c4 : 0 < ah
    · go_wp2_with (first | (go_at_call 28; refine (HG.out _ _ _).mono ?_; rintro e w5 ⟨rfl, hw5⟩; rw [hw5]; clear hw5) | (go_at_call 29; refine (HL.out _ _ _).mono ?_; rintro e w5 ⟨rfl, hw5⟩; rw [hw5]; clear hw5))
      exact bodyPost_ret (v := sv R) (by rw [HR.out]; simp [results, Try.results45, go_sem, *] <;> omega) rfl ⟨rfl, Below.put ((B.setCell (by simp only; omega) _).setCell (by simp only; omega) _) (by omega) _ _⟩
    · go_wp2_with (go_at_call 28; refine (HG.out _ _ _).mono ?_; rintro e w5 ⟨rfl, hw5⟩; rw [hw5]; clear hw5)
      exact bodyPost_ret (v := sv R) (by rw [HR.out]; simp [results, Try.results45, go_sem, *] <;> omega) rfl ⟨rfl, Below.put (B.setCell (by simp only; omega) _) (by omega) _ _⟩
    · go_wp2_with (go_at_call 29; refine (HL.out _ _ _).mono ?_; rintro e w5 ⟨rfl, hw5⟩; rw [hw5]; clear hw5)
      exact bodyPost_ret (v := sv R) (by rw [HR.out]; simp [results, Try.results45, go_sem, *] <;> omega) rfl ⟨rfl, Below.put (B.setCell (by simp only; omega) _) (by omega) _ _⟩
    · go_wp2_with fail
      exact bodyPost_ret (v := sv R) (by rw [HR.out]; simp [results, Try.results45, go_sem, *] <;> omega) rfl ⟨rfl, Below.put B (by omega) _ _⟩
  · go_upto_region 11 with (go_at_call 28; refine (HG.out _ _ _).mono ?_; rintro e w5 ⟨rfl, hw5⟩; rw [hw5]; clear hw5)
    obtain ⟨M, hM⟩ : ∃ M, M = max 0 (bh - 1) := ⟨_, rfl⟩
    rw [← hM]
    have hR := HM.out M (by rw [hM, HD.out]; unfold dis; (repeat' split) <;> omega)
    have hM0 : 0 ≤ M ∧ M ≤ 9223372036854775807 := by omega
    replace A0 := A0.more (.cells #[.int .i64 0, .int .i64 0] 23)
    replace A2 := A2.more (.cells #[.int .i64 0, .int .i64 0] 23)
    have A3 := At.new W (0, 0)
    replace B := Below.one B (.cells #[.int .i64 0, .int .i64 0] 23)
    have HR := Hid.mk' hR
    simp only at A3
    clear hM HM HD h0' hle hB1 hB2 c1 c2 x0 x1 A1 hR
    generalize W.alloc (.cells #[.int .i64 0, .int .i64 0] 23) = W3 at *
    generalize W.heap.size = gO at *
    have n1 : ¬ w.heap.size = gO := by omega
    have n2 : ¬ gO = w.heap.size := by omega
    have n3 : ¬ w.heap.size + 1 + 1 = gO := by omega
    have n4 : ¬ gO = w.heap.size + 1 + 1 := by omega
    have z0 := A0.c0; have z1 := A0.c1; have y0 := A2.c0; have y1 := A2.c1; have y2 := A2.f0; have y3 := A2.f1; have u0 := A3.c0; have u1 := A3.c1; have u2 := A3.f0; have u3 := A3.f1
    simp only at z0 z1 y0 y1 u0 u1
    by_cases c3 : al < 0 <;> by_cases c4 : 0 < ah
    · go_wp2_with (first | (go_at_call 28; refine (HG.out _ _ _).mono ?_; rintro e w5 ⟨rfl, hw5⟩; rw [hw5]; clear hw5) | (go_at_call 29; refine (HL.out _ _ _).mono ?_; rintro e w5 ⟨rfl, hw5⟩; rw [hw5]; clear hw5))
      exact bodyPost_ret (v := sv R) (by rw [HR.out]; simp [results, Try.results45, go_sem, *] <;> omega) rfl ⟨rfl, Below.put ((B.setCell (by simp only; omega) _).setCell (by simp only; omega) _) (by omega) _ _⟩
    · go_wp2_with (go_at_call 28; refine (HG.out _ _ _).mono ?_; rintro e w5 ⟨rfl, hw5⟩; rw [hw5]; clear hw5)
      exact bodyPost_ret (v := sv R) (by rw [HR.out]; simp [results, Try.results45, go_sem, *] <;> omega) rfl ⟨rfl, Below.put (B.setCell (by simp only; omega) _) (by omega) _ _⟩
    · go_wp2_with (go_at_call 29; refine (HL.out _ _ _).mono ?_; rintro e w5 ⟨rfl, hw5⟩; rw [hw5]; clear hw5)
      exact bodyPost_ret (v := sv R) (by rw [HR.out]; simp [results, Try.results45, go_sem, *] <;> omega) rfl ⟨rfl, Below.put (B.setCell (by simp only; omega) _) (by omega) _ _⟩
    · go_wp2_with fail
      exact bodyPost_ret (v := sv R) (by rw [HR.out]; simp [results, Try.results45, go_sem, *] <;> omega) rfl ⟨rfl, Below.put B (by omega) _ _⟩
  · go_upto_region 11 with (go_at_call 28; refine (HG.out _ _ _).mono ?_; rintro e w5 ⟨rfl, hw5⟩; rw [hw5]; clear hw5)
    obtain ⟨M, hM⟩ : ∃ M, M = max 0 (max (bh - 1) (bl - 1)) := ⟨_, rfl⟩
    rw [← hM]
    have hR := HM.out M (by rw [hM, HD.out]; unfold dis; (repeat' split) <;> omega)
    have hM0 : 0 ≤ M ∧ M ≤ 9223372036854775807 := by omega
    replace A0 := A0.more (.cells #[.int .i64 0, .int .i64 0] 23)
    replace A2 := A2.more (.cells #[.int .i64 0, .int .i64 0] 23)
    have A3 := At.new W (0, 0)
    replace B := Below.one B (.cells #[.int .i64 0, .int .i64 0] 23)
    have HR := Hid.mk' hR
    simp only at A3
    clear hM HM HD h0' hle hB1 hB2 c1 c2 x0 x1 A1 hR
    generalize W.alloc (.cells #[.int .i64 0, .int .i64 0] 23) = W3 at *
    generalize W.heap.size = gO at *
    have n1 : ¬ w.heap.size = gO := by omega
    have n2 : ¬ gO = w.heap.size := by omega
    have n3 : ¬ w.heap.size + 1 + 1 = gO := by omega
    have n4 : ¬ gO = w.heap.size + 1 + 1 := by omega
    have z0 := A0.c0; have z1 := A0.c1; have y0 := A2.c0; have y1 := A2.c1; have y2 := A2.f0; have y3 := A2.f1; have u0 := A3.c0; have u1 := A3.c1; have u2 := A3.f0; have u3 := A3.f1
    simp only at z0 z1 y0 y1 u0 u1
    by_cases c3 : al < 0 <;> by_cases c4 : 0 < ah
    · go_wp2_with (first | (go_at_call 28; refine (HG.out _ _ _).mono ?_; rintro e w5 ⟨rfl, hw5⟩; rw [hw5]; clear hw5) | (go_at_call 29; refine (HL.out _ _ _).mono ?_; rintro e w5 ⟨rfl, hw5⟩; rw [hw5]; clear hw5))
      exact bodyPost_ret (v := sv R) (by rw [HR.out]; simp [results, Try.results45, go_sem, *] <;> omega) rfl ⟨rfl, Below.put ((B.setCell (by simp only; omega) _).setCell (by simp only; omega) _) (by omega) _ _⟩
    · go_wp2_with (go_at_call 28; refine (HG.out _ _ _).mono ?_; rintro e w5 ⟨rfl, hw5⟩; rw [hw5]; clear hw5)
      exact bodyPost_ret (v := sv R) (by rw [HR.out]; simp [results, Try.results45, go_sem, *] <;> omega) rfl ⟨rfl, Below.put (B.setCell (by simp only; omega) _) (by omega) _ _⟩
    · go_wp2_with (go_at_call 29; refine (HL.out _ _ _).mono ?_; rintro e w5 ⟨rfl, hw5⟩; rw [hw5]; clear hw5)
      exact bodyPost_ret (v := sv R) (by rw [HR.out]; simp [results, Try.results45, go_sem, *] <;> omega) rfl ⟨rfl, Below.put (B.setCell (by simp only; omega) _) (by omega) _ _⟩
    · go_wp2_with fail
      exact bodyPost_ret (v := sv R) (by rw [HR.out]; simp [results, Try.results45, go_sem, *] <;> omega) rfl ⟨rfl, Below.put B (by omega) _ _⟩
end Go.Proofs.Ytbepapbfohfdkaa
