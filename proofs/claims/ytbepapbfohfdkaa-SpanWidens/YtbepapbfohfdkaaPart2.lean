/- Spans: where quotients are, the walk of all divisors. -/
import Derived.Test.YtbepapbfohfdkaaPart1
import Derived.BigRegion
namespace Go.Proofs.Ytbepapbfohfdkaa
open Go.RowKit Go.Lib Go.Sort

theorem pntV (n : Int) (w : World) : Calls Try.prog 36 #[.int .i64 n] w fun e w' => e = .returned (.agg #[.int .i64 n, .int .i64 n]) ∧ Below w.heap.size w w' := point_any n w
theorem joinV (al ah bl bh : Int) (w : World) : Calls Try.prog 16 #[.agg #[.int .i64 al, .int .i64 ah], .agg #[.int .i64 bl, .int .i64 bh]] w fun e w' => e = .returned (.agg #[.int .i64 (joinS (al, ah) (bl, bh)).1, .int .i64 (joinS (al, ah) (bl, bh)).2]) ∧ Below w.heap.size w w' := join_any (al, ah) (bl, bh) w
set_option maxHeartbeats 2000000 in
theorem quotients_loop (al ah bl bh : Int) (ha : Sp.Ok (al, ah)) (hle : al ≤ ah) (h1 : ¬ (al ≤ -9223372036854775808 ∧ -9223372036854775808 ≤ ah)) (w : World) : Calls Try.prog 31 #[sv (al, ah), sv (bl, bh)] w fun e w' => e = .returned (sv (hull (quoL (al, ah) (cand (bl, bh))))) ∧ Below w.heap.size w w' := by
  have H1 : Hid (∀ w, Calls Try.prog 14 #[.agg #[.int .i64 al, .int .i64 ah], .int .i64 (-9223372036854775808)] w fun e w' => e = .returned (.bool false) ∧ Below w.heap.size w w') := hasF h1
  have HN := Hid.mk' nthV
  have HR := Hid.mk' (quoK_all (al, ah) (bl, bh))
  generalize quoL (al, ah) (cand (bl, bh)) = R at *
  have hb := fun (o1 o2 o3 : Obj) => (Below.one (Below.one (Below.one (Below.refl _ w) o1) o2) o3 : Below w.heap.size w _)
  have hu : undef = Value.tuple #[] := rfl
  go_enter Try.func31, Try.ntmps31
  go_upto_region 4 with (first | (go_at_call_of 14 (Value.agg #[Value.int .i64 al, Value.int .i64 ah]); refine (H1.out _).mono ?_; rintro e w1 ⟨rfl, hb1⟩; have A0 := At.stay (At.more (At.more (At.new w (al, ah)) _) _) hb1; have A1 := At.stay (At.more (At.new1 w (bl, bh) _) _) hb1; have A2 := At.stay (At.new2 w (0, 0) _ _) hb1) | (go_at_call 48; refine (HN.out _).mono ?_; rintro e w2 ⟨rfl, hb2⟩))
  have B := Below.one (Below.on (Below.on (hb _ _ _) hb1) hb2) (.cells #[.int .i64 1, .int .i64 0] 23)
  replace A0 := (A0.stay hb2).more (.cells #[.int .i64 1, .int .i64 0] 23)
  replace A1 := (A1.stay hb2).more (.cells #[.int .i64 1, .int .i64 0] 23)
  replace A2 := (A2.stay hb2).more (.cells #[.int .i64 1, .int .i64 0] 23)
  have A3 := At.new w2 (1, 0)
  simp only at A3
  have hsz : w.heap.size + 2 < w2.heap.size := by have := hb1.size; have := hb2.size; simp only [World.size_alloc] at *; omega
  clear hb hb1 hb2 H1 HN
  generalize w2.alloc (.cells #[.int .i64 1, .int .i64 0] 23) = W at *
  generalize w2.heap.size = gO at *
  have z0 := A1.c0; have z1 := A1.c1
  go_wp2_with fail
  clear z0 z1
  go_loopw [21] (fun t21 wr => ∃ k : Nat, k ≤ 4 ∧ t21 = .int .i64 k ∧ At wr w.heap.size (al, ah) ∧ At wr (w.heap.size + 1) (bl, bh) ∧ At wr (w.heap.size + 1 + 1) (0, 0) ∧ At wr gO (hull (quoK (al, ah) (bl, bh) k)) ∧ Below w.heap.size w wr) (fun t21 _ => 4 - (intOf t21).toNat)
  case atStart => exact ⟨0, by omega, rfl, A0, A1, A2, A3, B⟩
  case round =>
    obtain ⟨k, hk, rfl, a0, a1, a2, a3, a4⟩ := hrel
    by_cases hlt : k < 4
    · have hli : (k : Int) < 4 := by omega
      obtain ⟨d, hd⟩ : ∃ d, (dvs (bl, bh))[k]? = some d := ⟨_, List.getElem?_eq_getElem (show k < (dvs (bl, bh)).length from hlt)⟩
      have hix := fun w => ix4 hlt hd w
      have z0 := a1.c0; have z1 := a1.c1
      by_cases hd0 : d = 0
      · have hd1 : (d == 0) = true := by simp [hd0]
        go_wp2_with fail
        go_roundw
        case rel =>
          refine ⟨k + 1, by omega, by go_num, a0, a1, a2, ?_, a4⟩
          rw [quoK_succ hd, if_neg (by simp only; omega)]
          exact a3
        case measure => simp [intOf]; omega
      · have hd1 := beq_no hd0
        by_cases hin : bl ≤ d ∧ d ≤ bh
        · have H5 : Hid (∀ w, Calls Try.prog 14 #[.agg #[.int .i64 bl, .int .i64 bh], .int .i64 d] w fun e w' => e = .returned (.bool true) ∧ Below w.heap.size w w') := hasT hin
          go_upto_region 8 with (go_at_call 14; refine (H5.out _).mono ?_; rintro e w5 ⟨rfl, hb5⟩)
          replace a0 := a0.stay hb5
          replace a1 := a1.stay hb5
          replace a2 := a2.stay hb5
          replace a3 := a3.stay hb5
          replace a4 := Below.on a4 hb5
          clear hb5 H5 z0 z1
          have n1 : Nm (al.tdiv d) := td_nm ha.1 hd0 (by unfold Sp.Ok Nm at ha; simp only at ha; omega)
          have n2 : Nm (ah.tdiv d) := td_nm ha.2 hd0 (by unfold Sp.Ok Nm at ha; simp only at ha; omega)
          have w1 : wrap64 (al.tdiv d) = al.tdiv d := wr_id n1
          have w2' : wrap64 (ah.tdiv d) = ah.tdiv d := wr_id n2
          have HJ1 := Hid.mk' (joinV (al.tdiv d) (al.tdiv d) (ah.tdiv d) (ah.tdiv d))
          have e2 : joinS (hull (quoK (al, ah) (bl, bh) k)) (joinS (al.tdiv d, al.tdiv d) (ah.tdiv d, ah.tdiv d)) = hull (quoK (al, ah) (bl, bh) (k + 1)) := by rw [hull_two, quoK_succ hd, if_pos ⟨hd0, hin⟩]
          have HJ2 := fun w => join_any (hull (quoK (al, ah) (bl, bh) k)) (joinS (al.tdiv d, al.tdiv d) (ah.tdiv d, ah.tdiv d)) w
          rw [e2] at HJ2
          have HJ2' := Hid.mk' HJ2
          clear e2 HJ2
          have HP := Hid.mk' pntV
          have u0 := a0.r0; have u1 := a0.r1; have u2 := a3.r0; have u3 := a3.r1
          generalize joinS (al.tdiv d, al.tdiv d) (ah.tdiv d, ah.tdiv d) = J at *
          generalize hull (quoK (al, ah) (bl, bh) k) = H at *
          refine region_below_tail 13 (by kernel_rfl) (by kernel_rfl) ?_
          simp only [List.take_succ_cons, List.take_zero, List.drop_succ_cons, List.drop_zero]
          repeat (go_big_quiet_step (first | (go_at_call 36; with_reducible exact Calls.regrown_of (HP.out _ _)) | (go_at_call 16; with_reducible exact Calls.regrown_of (HJ1.out _)) | (go_at_call 16; with_reducible exact Calls.regrown_of (HJ2'.out _))))
          refine wpQuiet_nil ?_
          intro _ hw'
          obtain ⟨⟨dq, osq⟩, hw''⟩ := hw'
          subst hw''
          clear u0 u1 u2 u3 HJ1 HJ2' HP
          have B5 : Below w5.heap.size w5 (grow (redrawn w5 dq) osq) := below_regrown _ dq osq
          replace a0 := a0.stay B5
          replace a1 := a1.stay B5
          replace a2 := a2.stay B5
          replace a3 := a3.stay B5
          replace a4 := Below.on a4 B5
          clear B5
          simp only
          generalize grow (redrawn w5 dq) osq = W5 at *
          have z2 := a3.f0; have z3 := a3.f1; have z4 := a3.c0; have z5 := a3.c1
          go_wp2_with fail
          go_roundw
          case rel => exact ⟨k + 1, by omega, by go_num, a0.ne (by omega) _ _, a1.ne (by omega) _ _, a2.ne (by omega) _ _, a3.put _, Below.put a4 (by omega) _ _⟩
          case measure => simp [intOf]; omega
        · have H5 : Hid (∀ w, Calls Try.prog 14 #[.agg #[.int .i64 bl, .int .i64 bh], .int .i64 d] w fun e w' => e = .returned (.bool false) ∧ Below w.heap.size w w') := hasF hin
          go_wp2_with (go_at_call 14; refine (H5.out _).mono ?_; rintro e w5 ⟨rfl, hb5⟩)
          go_roundw
          case rel =>
            refine ⟨k + 1, by omega, by go_num, a0.stay hb5, a1.stay hb5, a2.stay hb5, ?_, Below.on a4 hb5⟩
            rw [quoK_succ hd, if_neg (by simp only; omega)]
            exact a3.stay hb5
          case measure => simp [intOf]; omega
    · have hk4 : k = 4 := by omega
      subst hk4
      rw [HR.out] at a3
      have hli : ¬ ((4 : Nat) : Int) < 4 := by omega
      have z0 := a3.c0; have z1 := a3.c1; have y0 := a2.c0; have y1 := a2.c1; have y2 := a2.f0; have y3 := a2.f1
      go_wp2_with fail
      exact bodyPost_ret (v := sv (hull R)) (by simp [results, Try.results31, go_sem, *]) rfl ⟨rfl, (a4.setCell (by simp; omega) _).setCell (by simp; omega) _⟩
set_option maxHeartbeats 2000000 in
theorem quotients_loop2 (al ah bl bh : Int) (ha : Sp.Ok (al, ah)) (h1 : al ≤ -9223372036854775808 ∧ -9223372036854775808 ≤ ah) (h2 : ¬ (bl ≤ -1 ∧ -1 ≤ bh)) (w : World) : Calls Try.prog 31 #[sv (al, ah), sv (bl, bh)] w fun e w' => e = .returned (sv (hull (quoL (al, ah) (cand (bl, bh))))) ∧ Below w.heap.size w w' := by
  have H1 : Hid (∀ w, Calls Try.prog 14 #[.agg #[.int .i64 al, .int .i64 ah], .int .i64 (-9223372036854775808)] w fun e w' => e = .returned (.bool true) ∧ Below w.heap.size w w') := hasT h1
  have H2 : Hid (∀ w, Calls Try.prog 14 #[.agg #[.int .i64 bl, .int .i64 bh], .int .i64 (-1)] w fun e w' => e = .returned (.bool false) ∧ Below w.heap.size w w') := hasF h2
  have HN := Hid.mk' nthV
  have HR := Hid.mk' (quoK_all (al, ah) (bl, bh))
  generalize quoL (al, ah) (cand (bl, bh)) = R at *
  have hb := fun (o1 o2 o3 : Obj) => (Below.one (Below.one (Below.one (Below.refl _ w) o1) o2) o3 : Below w.heap.size w _)
  go_enter Try.func31, Try.ntmps31
  go_upto_region 4 with (first | (go_at_call_of 14 (Value.agg #[Value.int .i64 al, Value.int .i64 ah]); refine (H1.out _).mono ?_; rintro e w1 ⟨rfl, hb1⟩; have A0 := At.stay (At.more (At.more (At.new w (al, ah)) _) _) hb1; have A1 := At.stay (At.more (At.new1 w (bl, bh) _) _) hb1; have A2 := At.stay (At.new2 w (0, 0) _ _) hb1; have y0 := A1.c0; have y1 := A1.c1) | (go_at_call_of 14 (Value.agg #[Value.int .i64 bl, Value.int .i64 bh]); refine (H2.out _).mono ?_; rintro e w3 ⟨rfl, hb3⟩) | (go_at_call 48; refine (HN.out _).mono ?_; rintro e w2 ⟨rfl, hb4⟩; have hb2 := Below.on hb3 hb4))
  have B := Below.one (Below.on (Below.on (hb _ _ _) hb1) hb2) (.cells #[.int .i64 1, .int .i64 0] 23)
  replace A0 := (A0.stay hb2).more (.cells #[.int .i64 1, .int .i64 0] 23)
  replace A1 := (A1.stay hb2).more (.cells #[.int .i64 1, .int .i64 0] 23)
  replace A2 := (A2.stay hb2).more (.cells #[.int .i64 1, .int .i64 0] 23)
  have A3 := At.new w2 (1, 0)
  simp only at A3
  have hsz : w.heap.size + 2 < w2.heap.size := by have := hb1.size; have := hb2.size; simp only [World.size_alloc] at *; omega
  clear hb hb1 hb2 hb3 hb4 H1 H2 HN y0 y1
  generalize w2.alloc (.cells #[.int .i64 1, .int .i64 0] 23) = W at *
  generalize w2.heap.size = gO at *
  have z0 := A1.c0; have z1 := A1.c1
  go_wp2_with fail
  clear z0 z1
  go_loopw [21] (fun t21 wr => ∃ k : Nat, k ≤ 4 ∧ t21 = .int .i64 k ∧ At wr w.heap.size (al, ah) ∧ At wr (w.heap.size + 1) (bl, bh) ∧ At wr (w.heap.size + 1 + 1) (0, 0) ∧ At wr gO (hull (quoK (al, ah) (bl, bh) k)) ∧ Below w.heap.size w wr) (fun t21 _ => 4 - (intOf t21).toNat)
  case atStart => exact ⟨0, by omega, rfl, A0, A1, A2, A3, B⟩
  case round =>
    obtain ⟨k, hk, rfl, a0, a1, a2, a3, a4⟩ := hrel
    by_cases hlt : k < 4
    · have hli : (k : Int) < 4 := by omega
      obtain ⟨d, hd⟩ : ∃ d, (dvs (bl, bh))[k]? = some d := ⟨_, List.getElem?_eq_getElem (show k < (dvs (bl, bh)).length from hlt)⟩
      have hix := fun w => ix4 hlt hd w
      have z0 := a1.c0; have z1 := a1.c1
      by_cases hd0 : d = 0
      · have hd1 : (d == 0) = true := by simp [hd0]
        go_wp2_with fail
        go_roundw
        case rel =>
          refine ⟨k + 1, by omega, by go_num, a0, a1, a2, ?_, a4⟩
          rw [quoK_succ hd, if_neg (by simp only; omega)]
          exact a3
        case measure => simp [intOf]; omega
      · have hd1 := beq_no hd0
        by_cases hin : bl ≤ d ∧ d ≤ bh
        · have H5 : Hid (∀ w, Calls Try.prog 14 #[.agg #[.int .i64 bl, .int .i64 bh], .int .i64 d] w fun e w' => e = .returned (.bool true) ∧ Below w.heap.size w w') := hasT hin
          go_upto_region 8 with (go_at_call 14; refine (H5.out _).mono ?_; rintro e w5 ⟨rfl, hb5⟩)
          replace a0 := a0.stay hb5
          replace a1 := a1.stay hb5
          replace a2 := a2.stay hb5
          replace a3 := a3.stay hb5
          replace a4 := Below.on a4 hb5
          clear hb5 H5 z0 z1
          have n1 : Nm (al.tdiv d) := td_nm ha.1 hd0 (by unfold Sp.Ok Nm at ha; simp only at ha; omega)
          have n2 : Nm (ah.tdiv d) := td_nm ha.2 hd0 (by unfold Sp.Ok Nm at ha; simp only at ha; omega)
          have w1 : wrap64 (al.tdiv d) = al.tdiv d := wr_id n1
          have w2' : wrap64 (ah.tdiv d) = ah.tdiv d := wr_id n2
          have HJ1 := Hid.mk' (joinV (al.tdiv d) (al.tdiv d) (ah.tdiv d) (ah.tdiv d))
          have e2 : joinS (hull (quoK (al, ah) (bl, bh) k)) (joinS (al.tdiv d, al.tdiv d) (ah.tdiv d, ah.tdiv d)) = hull (quoK (al, ah) (bl, bh) (k + 1)) := by rw [hull_two, quoK_succ hd, if_pos ⟨hd0, hin⟩]
          have HJ2 := fun w => join_any (hull (quoK (al, ah) (bl, bh) k)) (joinS (al.tdiv d, al.tdiv d) (ah.tdiv d, ah.tdiv d)) w
          rw [e2] at HJ2
          have HJ2' := Hid.mk' HJ2
          clear e2 HJ2
          have HP := Hid.mk' pntV
          have u0 := a0.r0; have u1 := a0.r1; have u2 := a3.r0; have u3 := a3.r1
          generalize joinS (al.tdiv d, al.tdiv d) (ah.tdiv d, ah.tdiv d) = J at *
          generalize hull (quoK (al, ah) (bl, bh) k) = H at *
          refine region_below_tail 13 (by kernel_rfl) (by kernel_rfl) ?_
          simp only [List.take_succ_cons, List.take_zero, List.drop_succ_cons, List.drop_zero]
          repeat (go_big_quiet_step (first | (go_at_call 36; with_reducible exact Calls.regrown_of (HP.out _ _)) | (go_at_call 16; with_reducible exact Calls.regrown_of (HJ1.out _)) | (go_at_call 16; with_reducible exact Calls.regrown_of (HJ2'.out _))))
          refine wpQuiet_nil ?_
          intro _ hw'
          obtain ⟨⟨dq, osq⟩, hw''⟩ := hw'
          subst hw''
          clear u0 u1 u2 u3 HJ1 HJ2' HP
          have B5 : Below w5.heap.size w5 (grow (redrawn w5 dq) osq) := below_regrown _ dq osq
          replace a0 := a0.stay B5
          replace a1 := a1.stay B5
          replace a2 := a2.stay B5
          replace a3 := a3.stay B5
          replace a4 := Below.on a4 B5
          clear B5
          simp only
          generalize grow (redrawn w5 dq) osq = W5 at *
          have z2 := a3.f0; have z3 := a3.f1; have z4 := a3.c0; have z5 := a3.c1
          go_wp2_with fail
          go_roundw
          case rel => exact ⟨k + 1, by omega, by go_num, a0.ne (by omega) _ _, a1.ne (by omega) _ _, a2.ne (by omega) _ _, a3.put _, Below.put a4 (by omega) _ _⟩
          case measure => simp [intOf]; omega
        · have H5 : Hid (∀ w, Calls Try.prog 14 #[.agg #[.int .i64 bl, .int .i64 bh], .int .i64 d] w fun e w' => e = .returned (.bool false) ∧ Below w.heap.size w w') := hasF hin
          go_wp2_with (go_at_call 14; refine (H5.out _).mono ?_; rintro e w5 ⟨rfl, hb5⟩)
          go_roundw
          case rel =>
            refine ⟨k + 1, by omega, by go_num, a0.stay hb5, a1.stay hb5, a2.stay hb5, ?_, Below.on a4 hb5⟩
            rw [quoK_succ hd, if_neg (by simp only; omega)]
            exact a3.stay hb5
          case measure => simp [intOf]; omega
    · have hk4 : k = 4 := by omega
      subst hk4
      rw [HR.out] at a3
      have hli : ¬ ((4 : Nat) : Int) < 4 := by omega
      have z0 := a3.c0; have z1 := a3.c1; have y0 := a2.c0; have y1 := a2.c1; have y2 := a2.f0; have y3 := a2.f1
      go_wp2_with fail
      exact bodyPost_ret (v := sv (hull R)) (by simp [results, Try.results31, go_sem, *]) rfl ⟨rfl, (a4.setCell (by simp; omega) _).setCell (by simp; omega) _⟩
theorem quotients_any (a b : Sp) (ha : a.Ok) (hle : a.1 ≤ a.2) (w : World) : Calls Try.prog 31 #[sv a, sv b] w fun e w' => e = .returned (sv (quoS a b)) ∧ Below w.heap.size w w' := by
  obtain ⟨al, ah⟩ := a
  obtain ⟨bl, bh⟩ := b
  by_cases h1 : al ≤ -9223372036854775808 ∧ -9223372036854775808 ≤ ah
  · by_cases h2 : bl ≤ -1 ∧ -1 ≤ bh
    · have e : quoS (al, ah) (bl, bh) = allS := if_pos (by simp only [hasB]; rw [decide_eq_true h1, decide_eq_true h2]; rfl)
      rw [e]
      exact quotients_all al ah bl bh h1 h2 w
    · have e : quoS (al, ah) (bl, bh) = hull (quoL (al, ah) (cand (bl, bh))) := if_neg (by simp only [hasB]; rw [decide_eq_false h2]; simp)
      rw [e]
      exact quotients_loop2 al ah bl bh ha h1 h2 w
  · have e : quoS (al, ah) (bl, bh) = hull (quoL (al, ah) (cand (bl, bh))) := if_neg (by simp only [hasB]; rw [decide_eq_false h1]; simp)
    rw [e]
    exact quotients_loop al ah bl bh ha hle h1 w
end Go.Proofs.Ytbepapbfohfdkaa

/- Spans: where products are. -/
namespace Go.Proofs.Ytbepapbfohfdkaa
open Go.RowKit Go.Lib Go.Sort

def hulK (a b : Sp) (m : Nat) : Sp := hull (((corners a b).take m).map wr)
def fitK (a b : Sp) (m : Nat) : Bool := ((corners a b).take m).all fitB
theorem hulK_succ {a b : Sp} {m : Nat} {v : Int} (h : (corners a b)[m]? = some v) : joinS (hulK a b m) (wrap64 v, wrap64 v) = hulK a b (m + 1) := by
  unfold hulK
  rw [List.take_add_one, h, hull_snoc]
  simp
theorem fitK_succ {a b : Sp} {m : Nat} {v : Int} (h : (corners a b)[m]? = some v) : fitK a b (m + 1) = (fitK a b m && fitB v) := by
  unfold fitK
  rw [List.take_add_one, h]
  simp
theorem ix2 {x y d : Int} {k : Nat} (hlt : k < 2) (hd : ([x, y] : List Int)[k]? = some d) (w : World) : (Instr.index 54 (.agg #[.int .i64 x, .int .i64 y]) (.int .i64 k)).run Try.prog w = .ok (.int .i64 d) w := by
  have hz := Try.sizeOf2
  have ha := Try.isAgg2
  match k, hlt, hd with
  | 0, _, hd => simp at hd; simp [Instr.index, asIntOf, run_underlying Try.underlying54, go_sem, *]
  | 1, _, hd => simp at hd; simp [Instr.index, asIntOf, run_underlying Try.underlying54, go_sem, *]
theorem corner_at {al ah bl bh x y : Int} {k j : Nat} (hk : k < 2) (hj : j < 2) (hx : ([al, ah] : List Int)[k]? = some x) (hy : ([bl, bh] : List Int)[j]? = some y) : (corners (al, ah) (bl, bh))[2 * k + j]? = some (x * y) := by
  match k, j, hk, hj, hx, hy with
  | 0, 0, _, _, hx, hy => simp at hx hy; simp [corners, hx, hy]
  | 0, 1, _, _, hx, hy => simp at hx hy; simp [corners, hx, hy]
  | 1, 0, _, _, hx, hy => simp at hx hy; simp [corners, hx, hy]
  | 1, 1, _, _, hx, hy => simp at hx hy; simp [corners, hx, hy]
theorem two_nm {x y d : Int} {k : Nat} (hx : Nm x) (hy : Nm y) (hd : ([x, y] : List Int)[k]? = some d) : Nm d := by
  match k, hd with
  | 0, hd => simp at hd; exact hd ▸ hx
  | 1, hd => simp at hd; exact hd ▸ hy
  | k + 2, hd => simp at hd

set_option maxHeartbeats 2000000 in
theorem products_any (a b : Sp) (ha : a.Ok) (hb' : b.Ok) (w : World) : Calls Try.prog 34 #[sv a, sv b] w fun e w' => e = .returned (sv (proS a b)) ∧ Below w.heap.size w w' := by
  obtain ⟨al, ah⟩ := a
  obtain ⟨bl, bh⟩ := b
  have HN := Hid.mk' nthV
  have HS := Hid.mk' fun w => settle_any (al, ah) (bl, bh) (hulK (al, ah) (bl, bh) 4) (fitK (al, ah) (bl, bh) 4) w
  have eS : setS (al, ah) (bl, bh) (hulK (al, ah) (bl, bh) 4) (fitK (al, ah) (bl, bh) 4) = proS (al, ah) (bl, bh) := rfl
  rw [eS] at HS
  generalize proS (al, ah) (bl, bh) = R at *
  obtain ⟨R1, R2⟩ := R
  clear eS
  have hb := fun (o1 o2 o3 : Obj) => (Below.one (Below.one (Below.one (Below.refl _ w) o1) o2) o3 : Below w.heap.size w _)
  go_enter Try.func34, Try.ntmps34
  go_upto_region 2 with (go_at_call 48; refine (HN.out _).mono ?_; rintro e w2 ⟨rfl, hb2⟩)
  have A0 := (At.stay (At.more (At.more (At.new w (al, ah)) _) _) hb2).more (.cells #[.int .i64 1, .int .i64 0] 23)
  have A1 := (At.stay (At.more (At.new1 w (bl, bh) _) _) hb2).more (.cells #[.int .i64 1, .int .i64 0] 23)
  have A2 := (At.stay (At.new2 w (0, 0) _ _) hb2).more (.cells #[.int .i64 1, .int .i64 0] 23)
  have B := Below.one (Below.on (hb _ _ _) hb2) (.cells #[.int .i64 1, .int .i64 0] 23)
  have A3 := At.new w2 (1, 0)
  simp only at A3
  have hsz : w.heap.size + 2 < w2.heap.size := by have := hb2.size; simp only [World.size_alloc] at *; omega
  clear hb hb2 HN
  generalize w2.alloc (.cells #[.int .i64 1, .int .i64 0] 23) = W at *
  generalize w2.heap.size = gO at *
  have z0 := A0.c0; have z1 := A0.c1
  go_wp2_with fail
  clear z0 z1
  go_loopw [6, 19] (fun t6 t19 wr => ∃ k : Nat, k ≤ 2 ∧ t19 = .int .i64 k ∧ t6 = .bool (fitK (al, ah) (bl, bh) (2 * k)) ∧ At wr w.heap.size (al, ah) ∧ At wr (w.heap.size + 1) (bl, bh) ∧ At wr (w.heap.size + 1 + 1) (0, 0) ∧ At wr gO (hulK (al, ah) (bl, bh) (2 * k)) ∧ Below w.heap.size w wr) (fun _ t19 _ => 2 - (intOf t19).toNat)
  case atStart => exact ⟨0, by omega, rfl, rfl, A0, A1, A2, A3, B⟩
  case round =>
    clear A0 A1 A2 A3 B
    obtain ⟨k, hk, rfl, rfl, a0, a1, a2, a3, a4⟩ := hrel
    by_cases hlt : k < 2
    · have hli : (k : Int) < 2 := by omega
      obtain ⟨x, hx⟩ : ∃ d, ([al, ah] : List Int)[k]? = some d := ⟨_, List.getElem?_eq_getElem (show k < [al, ah].length from hlt)⟩
      have hix := fun w => ix2 hlt hx w
      have z0 := a1.c0; have z1 := a1.c1
      go_wp2_with fail
      clear z0 z1 hix
      go_loopw [6, 27] (fun t6 t27 wr => ∃ j : Nat, j ≤ 2 ∧ t27 = .int .i64 j ∧ t6 = .bool (fitK (al, ah) (bl, bh) (2 * k + j)) ∧ At wr w.heap.size (al, ah) ∧ At wr (w.heap.size + 1) (bl, bh) ∧ At wr (w.heap.size + 1 + 1) (0, 0) ∧ At wr gO (hulK (al, ah) (bl, bh) (2 * k + j)) ∧ Below w.heap.size w wr) (fun _ t27 _ => 2 - (intOf t27).toNat)
      case atStart => exact ⟨0, by omega, rfl, rfl, a0, a1, a2, a3, a4⟩
      case round =>
        clear a0 a1 a2 a3 a4
        obtain ⟨j, hj, rfl, rfl, a0, a1, a2, a3, a4⟩ := hrel
        by_cases hjt : j < 2
        · have hji : (j : Int) < 2 := by omega
          obtain ⟨y, hy⟩ : ∃ d, ([bl, bh] : List Int)[j]? = some d := ⟨_, List.getElem?_eq_getElem (show j < [bl, bh].length from hjt)⟩
          have hiy := fun w => ix2 hjt hy w
          have hc := corner_at hlt hjt hx hy
          have HP := Hid.mk' (product_any x y (two_nm ha.1 ha.2 hx) (two_nm hb'.1 hb'.2 hy))
          have e1 := hulK_succ hc
          have HF := Hid.mk' (fitK_succ hc)
          have HJ := fun w => join_any (hulK (al, ah) (bl, bh) (2 * k + j)) (wrap64 (x * y), wrap64 (x * y)) w
          rw [e1] at HJ
          have HJ' := Hid.mk' HJ
          have HPT := Hid.mk' pntV
          clear HJ e1 hc
          go_upto_region 9 with (go_at_call 52; refine (HP.out _).mono ?_; rintro e w5 ⟨rfl, hw5⟩; rw [hw5]; clear hw5)
          have u2 := a3.r0; have u3 := a3.r1
          clear HP hiy
          generalize hn : wrap64 (x * y) = n at *
          generalize hf : fitB (x * y) = f at *
          generalize hulK (al, ah) (bl, bh) (2 * k + j) = H at *
          refine region_below_tail 4 (by kernel_rfl) (by kernel_rfl) ?_
          simp only [List.take_succ_cons, List.take_zero, List.drop_succ_cons, List.drop_zero]
          repeat (go_big_quiet_step (first | (go_at_call 36; with_reducible exact Calls.regrown_of (HPT.out _ _)) | (go_at_call 16; with_reducible exact Calls.regrown_of (HJ'.out _))))
          refine wpQuiet_nil ?_
          intro _ hw'
          obtain ⟨⟨dq, osq⟩, hw''⟩ := hw'
          subst hw''
          clear u2 u3 HJ' HPT
          have B5 : Below wr.heap.size wr (grow (redrawn wr dq) osq) := below_regrown _ dq osq
          replace a0 := a0.stay B5
          replace a1 := a1.stay B5
          replace a2 := a2.stay B5
          replace a3 := a3.stay B5
          replace a4 := Below.on a4 B5
          clear B5
          simp only
          generalize grow (redrawn wr dq) osq = W5 at *
          have z2 := a3.f0; have z3 := a3.f1; have z4 := a3.c0; have z5 := a3.c1
          generalize hF : fitK (al, ah) (bl, bh) (2 * k + j) = F at *
          cases F
          all_goals
            go_wp2_with fail
            go_roundw
            case rel => exact ⟨j + 1, by omega, by go_num, by rw [← Nat.add_assoc, HF.out]; rfl, a0.ne (by omega) _ _, a1.ne (by omega) _ _, a2.ne (by omega) _ _, a3.put _, Below.put a4 (by omega) _ _⟩
            case measure => simp [intOf]; omega
        · have hj2 : j = 2 := by omega
          subst hj2
          have hji : ¬ ((2 : Nat) : Int) < 2 := by omega
          go_wp2_with fail
          go_roundw
          case rel => exact ⟨k + 1, by omega, by go_num, rfl, a0, a1, a2, a3, a4⟩
          case measure => simp [intOf]; omega
    · have hk4 : k = 2 := by omega
      subst hk4
      have hli : ¬ ((2 : Nat) : Int) < 2 := by omega
      have z0 := a3.c0; have z1 := a3.c1; have y0 := a0.c0; have y1 := a0.c1; have x0 := a1.c0; have x1 := a1.c1
      simp only [show 2 * 2 = 4 from rfl] at *
      generalize hulK (al, ah) (bl, bh) 4 = H at *
      generalize fitK (al, ah) (bl, bh) 4 = F at *
      go_wp2_with (go_at_call 50; refine (HS.out _).mono ?_; rintro e w6 ⟨rfl, hb6⟩; have D2 := a2.stay hb6; have t0 := D2.c0; have t1 := D2.c1; have t2 := D2.f0; have t3 := D2.f1)
      exact bodyPost_ret (v := sv (R1, R2)) (by simp [results, Try.results34, go_sem, *]) rfl ⟨rfl, Below.put (Below.on a4 hb6) (by omega) _ _⟩
end Go.Proofs.Ytbepapbfohfdkaa

/- What Do tells of sums, differences, products, and of what is less. -/
namespace Go.Proofs.Ytbepapbfohfdkaa
open Go.RowKit Go.Lib Go.Sort

set_option maxHeartbeats 1000000 in
theorem do_add (al ah bl bh : Int) (h1 : al ≤ ah) (h2 : bl ≤ bh) (ha : Sp.Ok (al, ah)) (hb' : Sp.Ok (bl, bh)) (w : World) : Calls Try.prog 20 #[.int .i64 3, sv (al, ah), sv (bl, bh)] w fun e w' => e = .returned (.tuple #[sv (sumS (al, ah) (bl, bh)), .bool true]) ∧ Below w.heap.size w w' := by
  have HEa : Hid (∀ w, Calls Try.prog 27 #[.agg #[.int .i64 al, .int .i64 ah]] w fun e w' => e = .returned (.bool false) ∧ Below w.heap.size w w') := emF h1
  have HEb : Hid (∀ w, Calls Try.prog 27 #[.agg #[.int .i64 bl, .int .i64 bh]] w fun e w' => e = .returned (.bool false) ∧ Below w.heap.size w w') := emF h2
  have hb := fun (o1 o2 o3 : Obj) => (Below.one (Below.one (Below.one (Below.refl _ w) o1) o2) o3 : Below w.heap.size w _)
  have HC := Hid.mk' fun w => sums_any (al, ah) (bl, bh) ha hb' w
  generalize sumS (al, ah) (bl, bh) = R at *
  obtain ⟨R1, R2⟩ := R
  clear h1 h2
  go_enter Try.func20, Try.ntmps20
  go_wp2_with (first | (go_at_call_of 27 (Value.agg #[Value.int .i64 al, Value.int .i64 ah]); refine (HEa.out _).mono ?_; rintro e w1 ⟨rfl, hb1⟩; have A0 := At.stay (At.more (At.more (At.new w (al, ah)) _) _) hb1; have A1 := At.stay (At.more (At.new1 w (bl, bh) _) _) hb1; have A2 := At.stay (At.new2 w (0, 0) _ _) hb1; have x0 := A0.c0; have x1 := A0.c1; have y0 := A1.c0; have y1 := A1.c1; have z0 := A2.c0; have z1 := A2.c1; have z2 := A2.f0; have z3 := A2.f1) | (go_at_call_of 27 (Value.agg #[Value.int .i64 bl, Value.int .i64 bh]); refine (HEb.out _).mono ?_; rintro e w2 ⟨rfl, hb2⟩; have D0 := A0.stay hb2; have D1 := A1.stay hb2; have D2 := A2.stay hb2; have u0 := D0.c0; have u1 := D0.c1; have v0 := D1.c0; have v1 := D1.c1; have t0 := D2.c0; have t1 := D2.c1; have t2 := D2.f0; have t3 := D2.f1) | (go_at_call 32; refine (HC.out _).mono ?_; rintro e w3 ⟨rfl, hb3⟩; have E2 := D2.stay hb3; have s0 := E2.c0; have s1 := E2.c1; have s2 := E2.f0; have s3 := E2.f1))
  exact bodyPost_ret (v := .tuple #[sv (R1, R2), .bool true]) (by simp [results, Try.results20, go_sem, *]) rfl ⟨rfl, Below.put (Below.on (Below.on (Below.on (hb _ _ _) hb1) hb2) hb3) (by omega) _ _⟩
set_option maxHeartbeats 1000000 in
theorem do_sub (al ah bl bh : Int) (h1 : al ≤ ah) (h2 : bl ≤ bh) (ha : Sp.Ok (al, ah)) (hb' : Sp.Ok (bl, bh)) (w : World) : Calls Try.prog 20 #[.int .i64 4, sv (al, ah), sv (bl, bh)] w fun e w' => e = .returned (.tuple #[sv (difS (al, ah) (bl, bh)), .bool true]) ∧ Below w.heap.size w w' := by
  have HEa : Hid (∀ w, Calls Try.prog 27 #[.agg #[.int .i64 al, .int .i64 ah]] w fun e w' => e = .returned (.bool false) ∧ Below w.heap.size w w') := emF h1
  have HEb : Hid (∀ w, Calls Try.prog 27 #[.agg #[.int .i64 bl, .int .i64 bh]] w fun e w' => e = .returned (.bool false) ∧ Below w.heap.size w w') := emF h2
  have hb := fun (o1 o2 o3 : Obj) => (Below.one (Below.one (Below.one (Below.refl _ w) o1) o2) o3 : Below w.heap.size w _)
  have HC := Hid.mk' fun w => differences_any (al, ah) (bl, bh) ha hb' w
  generalize difS (al, ah) (bl, bh) = R at *
  obtain ⟨R1, R2⟩ := R
  clear h1 h2
  go_enter Try.func20, Try.ntmps20
  go_wp2_with (first | (go_at_call_of 27 (Value.agg #[Value.int .i64 al, Value.int .i64 ah]); refine (HEa.out _).mono ?_; rintro e w1 ⟨rfl, hb1⟩; have A0 := At.stay (At.more (At.more (At.new w (al, ah)) _) _) hb1; have A1 := At.stay (At.more (At.new1 w (bl, bh) _) _) hb1; have A2 := At.stay (At.new2 w (0, 0) _ _) hb1; have x0 := A0.c0; have x1 := A0.c1; have y0 := A1.c0; have y1 := A1.c1; have z0 := A2.c0; have z1 := A2.c1; have z2 := A2.f0; have z3 := A2.f1) | (go_at_call_of 27 (Value.agg #[Value.int .i64 bl, Value.int .i64 bh]); refine (HEb.out _).mono ?_; rintro e w2 ⟨rfl, hb2⟩; have D0 := A0.stay hb2; have D1 := A1.stay hb2; have D2 := A2.stay hb2; have u0 := D0.c0; have u1 := D0.c1; have v0 := D1.c0; have v1 := D1.c1; have t0 := D2.c0; have t1 := D2.c1; have t2 := D2.f0; have t3 := D2.f1) | (go_at_call 33; refine (HC.out _).mono ?_; rintro e w3 ⟨rfl, hb3⟩; have E2 := D2.stay hb3; have s0 := E2.c0; have s1 := E2.c1; have s2 := E2.f0; have s3 := E2.f1))
  exact bodyPost_ret (v := .tuple #[sv (R1, R2), .bool true]) (by simp [results, Try.results20, go_sem, *]) rfl ⟨rfl, Below.put (Below.on (Below.on (Below.on (hb _ _ _) hb1) hb2) hb3) (by omega) _ _⟩
set_option maxHeartbeats 1000000 in
theorem do_mul (al ah bl bh : Int) (h1 : al ≤ ah) (h2 : bl ≤ bh) (ha : Sp.Ok (al, ah)) (hb' : Sp.Ok (bl, bh)) (w : World) : Calls Try.prog 20 #[.int .i64 5, sv (al, ah), sv (bl, bh)] w fun e w' => e = .returned (.tuple #[sv (proS (al, ah) (bl, bh)), .bool true]) ∧ Below w.heap.size w w' := by
  have HEa : Hid (∀ w, Calls Try.prog 27 #[.agg #[.int .i64 al, .int .i64 ah]] w fun e w' => e = .returned (.bool false) ∧ Below w.heap.size w w') := emF h1
  have HEb : Hid (∀ w, Calls Try.prog 27 #[.agg #[.int .i64 bl, .int .i64 bh]] w fun e w' => e = .returned (.bool false) ∧ Below w.heap.size w w') := emF h2
  have hb := fun (o1 o2 o3 : Obj) => (Below.one (Below.one (Below.one (Below.refl _ w) o1) o2) o3 : Below w.heap.size w _)
  have HC := Hid.mk' fun w => products_any (al, ah) (bl, bh) ha hb' w
  generalize proS (al, ah) (bl, bh) = R at *
  obtain ⟨R1, R2⟩ := R
  clear h1 h2
  go_enter Try.func20, Try.ntmps20
  go_wp2_with (first | (go_at_call_of 27 (Value.agg #[Value.int .i64 al, Value.int .i64 ah]); refine (HEa.out _).mono ?_; rintro e w1 ⟨rfl, hb1⟩; have A0 := At.stay (At.more (At.more (At.new w (al, ah)) _) _) hb1; have A1 := At.stay (At.more (At.new1 w (bl, bh) _) _) hb1; have A2 := At.stay (At.new2 w (0, 0) _ _) hb1; have x0 := A0.c0; have x1 := A0.c1; have y0 := A1.c0; have y1 := A1.c1; have z0 := A2.c0; have z1 := A2.c1; have z2 := A2.f0; have z3 := A2.f1) | (go_at_call_of 27 (Value.agg #[Value.int .i64 bl, Value.int .i64 bh]); refine (HEb.out _).mono ?_; rintro e w2 ⟨rfl, hb2⟩; have D0 := A0.stay hb2; have D1 := A1.stay hb2; have D2 := A2.stay hb2; have u0 := D0.c0; have u1 := D0.c1; have v0 := D1.c0; have v1 := D1.c1; have t0 := D2.c0; have t1 := D2.c1; have t2 := D2.f0; have t3 := D2.f1) | (go_at_call 34; refine (HC.out _).mono ?_; rintro e w3 ⟨rfl, hb3⟩; have E2 := D2.stay hb3; have s0 := E2.c0; have s1 := E2.c1; have s2 := E2.f0; have s3 := E2.f1))
  exact bodyPost_ret (v := .tuple #[sv (R1, R2), .bool true]) (by simp [results, Try.results20, go_sem, *]) rfl ⟨rfl, Below.put (Below.on (Below.on (Below.on (hb _ _ _) hb1) hb2) hb3) (by omega) _ _⟩
set_option maxHeartbeats 1000000 in
theorem do_less (al ah bl bh : Int) (h1 : al ≤ ah) (h2 : bl ≤ bh) (w : World) : Calls Try.prog 20 #[.int .i64 8, sv (al, ah), sv (bl, bh)] w fun e w' => e = .returned (.tuple #[sv (tru (decide (ah < bl)) (decide (bh ≤ al))), .bool true]) ∧ Below w.heap.size w w' := by
  have HEa : Hid (∀ w, Calls Try.prog 27 #[.agg #[.int .i64 al, .int .i64 ah]] w fun e w' => e = .returned (.bool false) ∧ Below w.heap.size w w') := emF h1
  have HEb : Hid (∀ w, Calls Try.prog 27 #[.agg #[.int .i64 bl, .int .i64 bh]] w fun e w' => e = .returned (.bool false) ∧ Below w.heap.size w w') := emF h2
  have hb := fun (o1 o2 o3 : Obj) => (Below.one (Below.one (Below.one (Below.refl _ w) o1) o2) o3 : Below w.heap.size w _)
  have HC := Hid.mk' truth_any
  clear h1 h2
  cases hp : decide (ah < bl) <;> cases hq : decide (bh ≤ al)
  all_goals
    go_enter Try.func20, Try.ntmps20
    go_wp2_with (first | (go_at_call_of 27 (Value.agg #[Value.int .i64 al, Value.int .i64 ah]); refine (HEa.out _).mono ?_; rintro e w1 ⟨rfl, hb1⟩; have A0 := At.stay (At.more (At.more (At.new w (al, ah)) _) _) hb1; have A1 := At.stay (At.more (At.new1 w (bl, bh) _) _) hb1; have A2 := At.stay (At.new2 w (0, 0) _ _) hb1; have x0 := A0.c0; have x1 := A0.c1; have y0 := A1.c0; have y1 := A1.c1; have z0 := A2.c0; have z1 := A2.c1; have z2 := A2.f0; have z3 := A2.f1) | (go_at_call_of 27 (Value.agg #[Value.int .i64 bl, Value.int .i64 bh]); refine (HEb.out _).mono ?_; rintro e w2 ⟨rfl, hb2⟩; have D0 := A0.stay hb2; have D1 := A1.stay hb2; have D2 := A2.stay hb2; have u0 := D0.c0; have u1 := D0.c1; have v0 := D1.c0; have v1 := D1.c1; have t0 := D2.c0; have t1 := D2.c1; have t2 := D2.f0; have t3 := D2.f1) | (go_at_call 37; refine (HC.out _ _ _).mono ?_; rintro e w3 ⟨rfl, hb3⟩; have E2 := D2.stay hb3; have s0 := E2.c0; have s1 := E2.c1; have s2 := E2.f0; have s3 := E2.f1))
    exact bodyPost_ret (v := .tuple #[sv (tru _ _), .bool true]) (by simp [results, Try.results20, go_sem, *]) rfl ⟨rfl, Below.put (Below.on (Below.on (Below.on (hb _ _ _) hb1) hb2) hb3) (by omega) _ _⟩
end Go.Proofs.Ytbepapbfohfdkaa

/- What Do tells of what is equal, and of no. -/
namespace Go.Proofs.Ytbepapbfohfdkaa
open Go.RowKit Go.Lib Go.Sort

set_option maxHeartbeats 1000000 in
theorem do_equal11 (al ah bl bh : Int) (h1 : al ≤ ah) (h2 : bl ≤ bh) (h3 : al = ah) (h4 : (al, ah) = (bl, bh)) (w : World) : Calls Try.prog 20 #[.int .i64 9, sv (al, ah), sv (bl, bh)] w fun e w' => e = .returned (.tuple #[sv (tru true (!meetB (al, ah) (bl, bh))), .bool true]) ∧ Below w.heap.size w w' := by
  have HEa : Hid (∀ w, Calls Try.prog 27 #[.agg #[.int .i64 al, .int .i64 ah]] w fun e w' => e = .returned (.bool false) ∧ Below w.heap.size w w') := emF h1
  have HEb : Hid (∀ w, Calls Try.prog 27 #[.agg #[.int .i64 bl, .int .i64 bh]] w fun e w' => e = .returned (.bool false) ∧ Below w.heap.size w w') := emF h2
  have hb := fun (o1 o2 o3 : Obj) => (Below.one (Below.one (Below.one (Below.refl _ w) o1) o2) o3 : Below w.heap.size w _)
  have HM := Hid.mk' fun w => meet_any (al, ah) (bl, bh) w
  have HT := Hid.mk' truth_any
  have HS : Hid (∀ w, Calls Try.prog 38 #[.agg #[.int .i64 al, .int .i64 ah]] w fun e w' => e = .returned (.bool true) ∧ Below w.heap.size w w') := fun w => by have := sglV al ah w; rwa [show (al == ah) = true by simp [h3]] at this
  have hg := eqGuard_s
  have hq : ∀ w, (Op.equalIn 10000 23 (.agg #[.int .i64 al, .int .i64 ah]) (.agg #[.int .i64 bl, .int .i64 bh])).run Try.prog w = .ok true w := fun w => equalIn_T h4 w
  generalize meetB (al, ah) (bl, bh) = mB at *
  generalize meetS (al, ah) (bl, bh) = mS at *
  obtain ⟨m1, m2⟩ := mS
  clear h1 h2 h3 h4
  go_enter Try.func20, Try.ntmps20
  go_upto_region 22 with (first | (go_at_call_of 27 (Value.agg #[Value.int .i64 al, Value.int .i64 ah]); refine (HEa.out _).mono ?_; rintro e w1 ⟨rfl, hb1⟩; have A0 := At.stay (At.more (At.more (At.new w (al, ah)) _) _) hb1; have A1 := At.stay (At.more (At.new1 w (bl, bh) _) _) hb1; have A2 := At.stay (At.new2 w (0, 0) _ _) hb1; have x0 := A0.c0; have x1 := A0.c1; have y0 := A1.c0; have y1 := A1.c1; have z0 := A2.c0; have z1 := A2.c1; have z2 := A2.f0; have z3 := A2.f1) | (go_at_call_of 27 (Value.agg #[Value.int .i64 bl, Value.int .i64 bh]); refine (HEb.out _).mono ?_; rintro e w2 ⟨rfl, hb2⟩; have D0 := A0.stay hb2; have D1 := A1.stay hb2; have D2 := A2.stay hb2; have u0 := D0.c0; have u1 := D0.c1; have v0 := D1.c0; have v1 := D1.c1; have t0 := D2.c0; have t1 := D2.c1; have t2 := D2.f0; have t3 := D2.f1) | (go_at_call 9; refine (HM.out _).mono ?_; rintro e w3 ⟨rfl, hb3⟩))
  have E0 := D0.on (.cells #[.int .i64 m1, .int .i64 m2] 23) hb3
  have E1 := D1.on (.cells #[.int .i64 m1, .int .i64 m2] 23) hb3
  have E2 := D2.on (.cells #[.int .i64 m1, .int .i64 m2] 23) hb3
  have BB := Below.one (Below.on (Below.on (Below.on (hb _ _ _) hb1) hb2) hb3) (.cells #[.int .i64 m1, .int .i64 m2] 23)
  clear x0 x1 y0 y1 z0 z1 z2 z3 u0 u1 v0 v1 t0 t1 t2 t3 A0 A1 A2 D0 D1 D2
  generalize w3.alloc (.cells #[.int .i64 m1, .int .i64 m2] 23) = W3 at *
  have x0 := E0.c0; have x1 := E0.c1
  go_wp2_with (first | (go_at_call 38; refine (HS.out _).mono ?_; rintro e w4 ⟨rfl, hb4⟩; have F0 := E0.stay hb4; have F1 := E1.stay hb4; have F2 := E2.stay hb4; have u0 := F0.c0; have u1 := F0.c1; have v0 := F1.c0; have v1 := F1.c1; have t0 := F2.c0; have t1 := F2.c1; have t2 := F2.f0; have t3 := F2.f1) | (go_at_call 37; refine (HT.out _ _ _).mono ?_; rintro e w5 ⟨rfl, hb5⟩; have G2 := F2.stay hb5; have s0 := G2.c0; have s1 := G2.c1; have s2 := G2.f0; have s3 := G2.f1))
  exact bodyPost_ret (v := .tuple #[sv (tru _ _), .bool true]) (by simp [results, Try.results20, go_sem, *]) rfl ⟨rfl, Below.put (Below.on (Below.on BB hb4) hb5) (by omega) _ _⟩
set_option maxHeartbeats 1000000 in
theorem do_equal10 (al ah bl bh : Int) (h1 : al ≤ ah) (h2 : bl ≤ bh) (h3 : al = ah) (h4 : (al, ah) ≠ (bl, bh)) (w : World) : Calls Try.prog 20 #[.int .i64 9, sv (al, ah), sv (bl, bh)] w fun e w' => e = .returned (.tuple #[sv (tru false (!meetB (al, ah) (bl, bh))), .bool true]) ∧ Below w.heap.size w w' := by
  have HEa : Hid (∀ w, Calls Try.prog 27 #[.agg #[.int .i64 al, .int .i64 ah]] w fun e w' => e = .returned (.bool false) ∧ Below w.heap.size w w') := emF h1
  have HEb : Hid (∀ w, Calls Try.prog 27 #[.agg #[.int .i64 bl, .int .i64 bh]] w fun e w' => e = .returned (.bool false) ∧ Below w.heap.size w w') := emF h2
  have hb := fun (o1 o2 o3 : Obj) => (Below.one (Below.one (Below.one (Below.refl _ w) o1) o2) o3 : Below w.heap.size w _)
  have HM := Hid.mk' fun w => meet_any (al, ah) (bl, bh) w
  have HT := Hid.mk' truth_any
  have HS : Hid (∀ w, Calls Try.prog 38 #[.agg #[.int .i64 al, .int .i64 ah]] w fun e w' => e = .returned (.bool true) ∧ Below w.heap.size w w') := fun w => by have := sglV al ah w; rwa [show (al == ah) = true by simp [h3]] at this
  have hg := eqGuard_s
  have hq : ∀ w, (Op.equalIn 10000 23 (.agg #[.int .i64 al, .int .i64 ah]) (.agg #[.int .i64 bl, .int .i64 bh])).run Try.prog w = .ok false w := fun w => equalIn_F h4 w
  generalize meetB (al, ah) (bl, bh) = mB at *
  generalize meetS (al, ah) (bl, bh) = mS at *
  obtain ⟨m1, m2⟩ := mS
  clear h1 h2 h3 h4
  go_enter Try.func20, Try.ntmps20
  go_upto_region 22 with (first | (go_at_call_of 27 (Value.agg #[Value.int .i64 al, Value.int .i64 ah]); refine (HEa.out _).mono ?_; rintro e w1 ⟨rfl, hb1⟩; have A0 := At.stay (At.more (At.more (At.new w (al, ah)) _) _) hb1; have A1 := At.stay (At.more (At.new1 w (bl, bh) _) _) hb1; have A2 := At.stay (At.new2 w (0, 0) _ _) hb1; have x0 := A0.c0; have x1 := A0.c1; have y0 := A1.c0; have y1 := A1.c1; have z0 := A2.c0; have z1 := A2.c1; have z2 := A2.f0; have z3 := A2.f1) | (go_at_call_of 27 (Value.agg #[Value.int .i64 bl, Value.int .i64 bh]); refine (HEb.out _).mono ?_; rintro e w2 ⟨rfl, hb2⟩; have D0 := A0.stay hb2; have D1 := A1.stay hb2; have D2 := A2.stay hb2; have u0 := D0.c0; have u1 := D0.c1; have v0 := D1.c0; have v1 := D1.c1; have t0 := D2.c0; have t1 := D2.c1; have t2 := D2.f0; have t3 := D2.f1) | (go_at_call 9; refine (HM.out _).mono ?_; rintro e w3 ⟨rfl, hb3⟩))
  have E0 := D0.on (.cells #[.int .i64 m1, .int .i64 m2] 23) hb3
  have E1 := D1.on (.cells #[.int .i64 m1, .int .i64 m2] 23) hb3
  have E2 := D2.on (.cells #[.int .i64 m1, .int .i64 m2] 23) hb3
  have BB := Below.one (Below.on (Below.on (Below.on (hb _ _ _) hb1) hb2) hb3) (.cells #[.int .i64 m1, .int .i64 m2] 23)
  clear x0 x1 y0 y1 z0 z1 z2 z3 u0 u1 v0 v1 t0 t1 t2 t3 A0 A1 A2 D0 D1 D2
  generalize w3.alloc (.cells #[.int .i64 m1, .int .i64 m2] 23) = W3 at *
  have x0 := E0.c0; have x1 := E0.c1
  go_wp2_with (first | (go_at_call 38; refine (HS.out _).mono ?_; rintro e w4 ⟨rfl, hb4⟩; have F0 := E0.stay hb4; have F1 := E1.stay hb4; have F2 := E2.stay hb4; have u0 := F0.c0; have u1 := F0.c1; have v0 := F1.c0; have v1 := F1.c1; have t0 := F2.c0; have t1 := F2.c1; have t2 := F2.f0; have t3 := F2.f1) | (go_at_call 37; refine (HT.out _ _ _).mono ?_; rintro e w5 ⟨rfl, hb5⟩; have G2 := F2.stay hb5; have s0 := G2.c0; have s1 := G2.c1; have s2 := G2.f0; have s3 := G2.f1))
  exact bodyPost_ret (v := .tuple #[sv (tru _ _), .bool true]) (by simp [results, Try.results20, go_sem, *]) rfl ⟨rfl, Below.put (Below.on (Below.on BB hb4) hb5) (by omega) _ _⟩
set_option maxHeartbeats 1000000 in
theorem do_equal00 (al ah bl bh : Int) (h1 : al ≤ ah) (h2 : bl ≤ bh) (h3 : al ≠ ah) (w : World) : Calls Try.prog 20 #[.int .i64 9, sv (al, ah), sv (bl, bh)] w fun e w' => e = .returned (.tuple #[sv (tru false (!meetB (al, ah) (bl, bh))), .bool true]) ∧ Below w.heap.size w w' := by
  have HEa : Hid (∀ w, Calls Try.prog 27 #[.agg #[.int .i64 al, .int .i64 ah]] w fun e w' => e = .returned (.bool false) ∧ Below w.heap.size w w') := emF h1
  have HEb : Hid (∀ w, Calls Try.prog 27 #[.agg #[.int .i64 bl, .int .i64 bh]] w fun e w' => e = .returned (.bool false) ∧ Below w.heap.size w w') := emF h2
  have hb := fun (o1 o2 o3 : Obj) => (Below.one (Below.one (Below.one (Below.refl _ w) o1) o2) o3 : Below w.heap.size w _)
  have HM := Hid.mk' fun w => meet_any (al, ah) (bl, bh) w
  have HT := Hid.mk' truth_any
  have HS : Hid (∀ w, Calls Try.prog 38 #[.agg #[.int .i64 al, .int .i64 ah]] w fun e w' => e = .returned (.bool false) ∧ Below w.heap.size w w') := fun w => by have := sglV al ah w; rwa [beq_no h3] at this
  have hu : undef = Value.tuple #[] := rfl
  generalize meetB (al, ah) (bl, bh) = mB at *
  generalize meetS (al, ah) (bl, bh) = mS at *
  obtain ⟨m1, m2⟩ := mS
  clear h1 h2 h3
  go_enter Try.func20, Try.ntmps20
  go_upto_region 22 with (first | (go_at_call_of 27 (Value.agg #[Value.int .i64 al, Value.int .i64 ah]); refine (HEa.out _).mono ?_; rintro e w1 ⟨rfl, hb1⟩; have A0 := At.stay (At.more (At.more (At.new w (al, ah)) _) _) hb1; have A1 := At.stay (At.more (At.new1 w (bl, bh) _) _) hb1; have A2 := At.stay (At.new2 w (0, 0) _ _) hb1; have x0 := A0.c0; have x1 := A0.c1; have y0 := A1.c0; have y1 := A1.c1; have z0 := A2.c0; have z1 := A2.c1; have z2 := A2.f0; have z3 := A2.f1) | (go_at_call_of 27 (Value.agg #[Value.int .i64 bl, Value.int .i64 bh]); refine (HEb.out _).mono ?_; rintro e w2 ⟨rfl, hb2⟩; have D0 := A0.stay hb2; have D1 := A1.stay hb2; have D2 := A2.stay hb2; have u0 := D0.c0; have u1 := D0.c1; have v0 := D1.c0; have v1 := D1.c1; have t0 := D2.c0; have t1 := D2.c1; have t2 := D2.f0; have t3 := D2.f1) | (go_at_call 9; refine (HM.out _).mono ?_; rintro e w3 ⟨rfl, hb3⟩))
  have E0 := D0.on (.cells #[.int .i64 m1, .int .i64 m2] 23) hb3
  have E1 := D1.on (.cells #[.int .i64 m1, .int .i64 m2] 23) hb3
  have E2 := D2.on (.cells #[.int .i64 m1, .int .i64 m2] 23) hb3
  have BB := Below.one (Below.on (Below.on (Below.on (hb _ _ _) hb1) hb2) hb3) (.cells #[.int .i64 m1, .int .i64 m2] 23)
  clear x0 x1 y0 y1 z0 z1 z2 z3 u0 u1 v0 v1 t0 t1 t2 t3 A0 A1 A2 D0 D1 D2
  generalize w3.alloc (.cells #[.int .i64 m1, .int .i64 m2] 23) = W3 at *
  have x0 := E0.c0; have x1 := E0.c1
  go_wp2_with (first | (go_at_call 38; refine (HS.out _).mono ?_; rintro e w4 ⟨rfl, hb4⟩; have F0 := E0.stay hb4; have F1 := E1.stay hb4; have F2 := E2.stay hb4; have u0 := F0.c0; have u1 := F0.c1; have v0 := F1.c0; have v1 := F1.c1; have t0 := F2.c0; have t1 := F2.c1; have t2 := F2.f0; have t3 := F2.f1) | (go_at_call 37; refine (HT.out _ _ _).mono ?_; rintro e w5 ⟨rfl, hb5⟩; have G2 := F2.stay hb5; have s0 := G2.c0; have s1 := G2.c1; have s2 := G2.f0; have s3 := G2.f1))
  exact bodyPost_ret (v := .tuple #[sv (tru _ _), .bool true]) (by simp [results, Try.results20, go_sem, *]) rfl ⟨rfl, Below.put (Below.on (Below.on BB hb4) hb5) (by omega) _ _⟩
set_option maxHeartbeats 1000000 in
theorem do_notF (al ah bl bh : Int) (h1 : al ≤ ah) (h2 : bl ≤ bh) (w : World) : Calls Try.prog 20 #[.int .i64 10, sv (al, ah), sv (bl, bh)] w fun e w' => e = .returned (.tuple #[sv (tru (al == 0 && ah == 0) (!hasB (al, ah) 0)), .bool true]) ∧ Below w.heap.size w w' := by
  have HEa : Hid (∀ w, Calls Try.prog 27 #[.agg #[.int .i64 al, .int .i64 ah]] w fun e w' => e = .returned (.bool false) ∧ Below w.heap.size w w') := emF h1
  have HEb : Hid (∀ w, Calls Try.prog 27 #[.agg #[.int .i64 bl, .int .i64 bh]] w fun e w' => e = .returned (.bool false) ∧ Below w.heap.size w w') := emF h2
  have hb := fun (o1 o2 o3 : Obj) => (Below.one (Below.one (Below.one (Below.refl _ w) o1) o2) o3 : Below w.heap.size w _)
  have hg := eqGuard_s
  have hq : ∀ w, (Op.equalIn 10000 23 (.agg #[.int .i64 al, .int .i64 ah]) (.agg #[.int .i64 0, .int .i64 0])).run Try.prog w = .ok (al == 0 && ah == 0) w := fun w => equalIn_s al ah 0 0 w
  have HP : Hid (∀ w, Calls Try.prog 36 #[.int .i64 0] w fun e w' => e = .returned (.agg #[.int .i64 0, .int .i64 0]) ∧ Below w.heap.size w w') := fun w => point_any 0 w
  have HH : Hid (∀ w, Calls Try.prog 14 #[.agg #[.int .i64 al, .int .i64 ah], .int .i64 0] w fun e w' => e = .returned (.bool (hasB (al, ah) 0)) ∧ Below w.heap.size w w') := fun w => has_any (al, ah) 0 w
  have HT := Hid.mk' truth_any
  generalize hasB (al, ah) 0 = hB at *
  generalize (al == 0 && ah == 0) = qB at *
  clear h1 h2
  go_enter Try.func20, Try.ntmps20
  go_upto_region 23 with (first | (go_at_call_of 27 (Value.agg #[Value.int .i64 al, Value.int .i64 ah]); refine (HEa.out _).mono ?_; rintro e w1 ⟨rfl, hb1⟩; have A0 := At.stay (At.more (At.more (At.new w (al, ah)) _) _) hb1; have A1 := At.stay (At.more (At.new1 w (bl, bh) _) _) hb1; have A2 := At.stay (At.new2 w (0, 0) _ _) hb1; have x0 := A0.c0; have x1 := A0.c1; have y0 := A1.c0; have y1 := A1.c1; have z0 := A2.c0; have z1 := A2.c1; have z2 := A2.f0; have z3 := A2.f1) | (go_at_call_of 27 (Value.agg #[Value.int .i64 bl, Value.int .i64 bh]); refine (HEb.out _).mono ?_; rintro e w2 ⟨rfl, hb2⟩; have D0 := A0.stay hb2; have D1 := A1.stay hb2; have D2 := A2.stay hb2; have u0 := D0.c0; have u1 := D0.c1; have v0 := D1.c0; have v1 := D1.c1; have t0 := D2.c0; have t1 := D2.c1; have t2 := D2.f0; have t3 := D2.f1))
  have BB := (Below.on (Below.on (hb _ _ _) hb1) hb2)
  have r0 := D0.r0; have r1 := D0.r1
  clear x0 x1 y0 y1 z0 z1 z2 z3 u0 u1 v0 v1 t0 t1 t2 t3 A0 A1 A2
  refine region_below_tail 7 (by kernel_rfl) (by kernel_rfl) ?_
  simp only [List.take_succ_cons, List.take_zero, List.drop_succ_cons, List.drop_zero]
  repeat (go_big_quiet_step (first | (go_at_call 36; with_reducible exact Calls.regrown_of (HP.out _)) | (go_at_call 14; with_reducible exact Calls.regrown_of (HH.out _)) | (go_at_call 37; with_reducible exact Calls.regrown_of (HT.out _ _ _))))
  refine wpQuiet_nil ?_
  intro _ hw'
  obtain ⟨⟨dq, osq⟩, hw''⟩ := hw'
  subst hw''
  have B5 : Below w2.heap.size w2 (grow (redrawn w2 dq) osq) := below_regrown _ dq osq
  replace D2 := D2.stay B5
  replace BB := Below.on BB B5
  clear B5 r0 r1 hb hb1 hb2 D0 D1
  simp only
  generalize grow (redrawn w2 dq) osq = W2 at *
  have t0 := D2.c0; have t1 := D2.c1; have t2 := D2.f0; have t3 := D2.f1
  go_wp2_with fail
  exact bodyPost_ret (v := .tuple #[sv (tru _ _), .bool true]) (by simp [results, Try.results20, go_sem, *]) rfl ⟨rfl, Below.put BB (by omega) _ _⟩
set_option maxHeartbeats 1000000 in
theorem do_notT (al ah bl bh : Int) (h1 : al ≤ ah) (h2 : bh < bl) (w : World) : Calls Try.prog 20 #[.int .i64 10, sv (al, ah), sv (bl, bh)] w fun e w' => e = .returned (.tuple #[sv (tru (al == 0 && ah == 0) (!hasB (al, ah) 0)), .bool true]) ∧ Below w.heap.size w w' := by
  have HEa : Hid (∀ w, Calls Try.prog 27 #[.agg #[.int .i64 al, .int .i64 ah]] w fun e w' => e = .returned (.bool false) ∧ Below w.heap.size w w') := emF h1
  have HEb : Hid (∀ w, Calls Try.prog 27 #[.agg #[.int .i64 bl, .int .i64 bh]] w fun e w' => e = .returned (.bool true) ∧ Below w.heap.size w w') := emT h2
  have hb := fun (o1 o2 o3 : Obj) => (Below.one (Below.one (Below.one (Below.refl _ w) o1) o2) o3 : Below w.heap.size w _)
  have hg := eqGuard_s
  have hq : ∀ w, (Op.equalIn 10000 23 (.agg #[.int .i64 al, .int .i64 ah]) (.agg #[.int .i64 0, .int .i64 0])).run Try.prog w = .ok (al == 0 && ah == 0) w := fun w => equalIn_s al ah 0 0 w
  have HP : Hid (∀ w, Calls Try.prog 36 #[.int .i64 0] w fun e w' => e = .returned (.agg #[.int .i64 0, .int .i64 0]) ∧ Below w.heap.size w w') := fun w => point_any 0 w
  have HH : Hid (∀ w, Calls Try.prog 14 #[.agg #[.int .i64 al, .int .i64 ah], .int .i64 0] w fun e w' => e = .returned (.bool (hasB (al, ah) 0)) ∧ Below w.heap.size w w') := fun w => has_any (al, ah) 0 w
  have HT := Hid.mk' truth_any
  generalize hasB (al, ah) 0 = hB at *
  generalize (al == 0 && ah == 0) = qB at *
  clear h1 h2
  go_enter Try.func20, Try.ntmps20
  go_upto_region 23 with (first | (go_at_call_of 27 (Value.agg #[Value.int .i64 al, Value.int .i64 ah]); refine (HEa.out _).mono ?_; rintro e w1 ⟨rfl, hb1⟩; have A0 := At.stay (At.more (At.more (At.new w (al, ah)) _) _) hb1; have A1 := At.stay (At.more (At.new1 w (bl, bh) _) _) hb1; have A2 := At.stay (At.new2 w (0, 0) _ _) hb1; have x0 := A0.c0; have x1 := A0.c1; have y0 := A1.c0; have y1 := A1.c1; have z0 := A2.c0; have z1 := A2.c1; have z2 := A2.f0; have z3 := A2.f1) | (go_at_call_of 27 (Value.agg #[Value.int .i64 bl, Value.int .i64 bh]); refine (HEb.out _).mono ?_; rintro e w2 ⟨rfl, hb2⟩; have D0 := A0.stay hb2; have D1 := A1.stay hb2; have D2 := A2.stay hb2; have u0 := D0.c0; have u1 := D0.c1; have v0 := D1.c0; have v1 := D1.c1; have t0 := D2.c0; have t1 := D2.c1; have t2 := D2.f0; have t3 := D2.f1))
  have BB := (Below.on (Below.on (hb _ _ _) hb1) hb2)
  have r0 := D0.r0; have r1 := D0.r1
  clear x0 x1 y0 y1 z0 z1 z2 z3 u0 u1 v0 v1 t0 t1 t2 t3 A0 A1 A2
  refine region_below_tail 7 (by kernel_rfl) (by kernel_rfl) ?_
  simp only [List.take_succ_cons, List.take_zero, List.drop_succ_cons, List.drop_zero]
  repeat (go_big_quiet_step (first | (go_at_call 36; with_reducible exact Calls.regrown_of (HP.out _)) | (go_at_call 14; with_reducible exact Calls.regrown_of (HH.out _)) | (go_at_call 37; with_reducible exact Calls.regrown_of (HT.out _ _ _))))
  refine wpQuiet_nil ?_
  intro _ hw'
  obtain ⟨⟨dq, osq⟩, hw''⟩ := hw'
  subst hw''
  have B5 : Below w2.heap.size w2 (grow (redrawn w2 dq) osq) := below_regrown _ dq osq
  replace D2 := D2.stay B5
  replace BB := Below.on BB B5
  clear B5 r0 r1 hb hb1 hb2 D0 D1
  simp only
  generalize grow (redrawn w2 dq) osq = W2 at *
  have t0 := D2.c0; have t1 := D2.c1; have t2 := D2.f0; have t3 := D2.f1
  go_wp2_with fail
  exact bodyPost_ret (v := .tuple #[sv (tru _ _), .bool true]) (by simp [results, Try.results20, go_sem, *]) rfl ⟨rfl, Below.put BB (by omega) _ _⟩
end Go.Proofs.Ytbepapbfohfdkaa

/- Spans: where remainders are; what is left below. -/
namespace Go.Proofs.Ytbepapbfohfdkaa
open Go.RowKit Go.Lib Go.Sort

theorem most_nm {b : Sp} (hb : b.Ok) (h0 : b ≠ (0, 0)) : 1 ≤ max (dis b.1) (dis b.2) ∧ max (dis b.1) (dis b.2) ≤ 9223372036854775808 := by
  have h1 := dis_nm hb.1
  have h2 := dis_nm hb.2
  have h3 : b.1 ≠ 0 ∨ b.2 ≠ 0 := by
    by_cases e : b.1 = 0
    · exact .inr fun e2 => h0 (Prod.ext e e2)
    · exact .inl e
  have h4 : dis b.1 = 0 → b.1 = 0 := fun h => by unfold dis at h; split at h <;> omega
  have h5 : dis b.2 = 0 → b.2 = 0 := fun h => by unfold dis at h; split at h <;> omega
  omega
set_option maxHeartbeats 1000000 in
theorem remainders_any (a b : Sp) (ha : a.Ok) (hb' : b.Ok) (h0 : b ≠ (0, 0)) (w : World) : Calls Try.prog 35 #[sv a, sv b] w fun e w' => e = .returned (sv (remS a b)) ∧ Below w.heap.size w w' := by
  have hm := most_nm hb' h0
  obtain ⟨al, ah⟩ := a
  obtain ⟨bl, bh⟩ := b
  have HR : Hid (remS (al, ah) (bl, bh) = (min 0 (max al (-(max (dis bl) (dis bh) - 1))), max 0 (min ah (max (dis bl) (dis bh) - 1)))) := rfl
  have HD1 : Hid (∀ w, Calls Try.prog 53 #[.int .i64 bl] w fun e w' => e = .returned (.int .u64 (dis bl)) ∧ w' = w) := fun w => distance_any bl hb'.1 w
  have HD2 : Hid (∀ w, Calls Try.prog 53 #[.int .i64 bh] w fun e w' => e = .returned (.int .u64 (dis bh)) ∧ w' = w) := fun w => distance_any bh hb'.2 w
  have hA1 := ha.1
  have hA2 := ha.2
  unfold Nm at hA1 hA2
  simp only at hm hA1 hA2
  clear ha hb' h0
  have hb := fun (o1 o2 o3 : Obj) => (Below.one (Below.one (Below.one (Below.refl _ w) o1) o2) o3 : Below w.heap.size w _)
  generalize remS (al, ah) (bl, bh) = R at *
  generalize dis bl = D1 at *
  generalize dis bh = D2 at *
  go_enter Try.func35, Try.ntmps35
  go_upto_region 1 with fail
  have B0 := hb (.cells #[.int .i64 al, .int .i64 ah] 23) (.cells #[.int .i64 bl, .int .i64 bh] 23) (.cells #[.int .i64 0, .int .i64 0] 23)
  have A0 := At.more (At.more (At.new w (al, ah)) (.cells #[.int .i64 bl, .int .i64 bh] 23)) (.cells #[.int .i64 0, .int .i64 0] 23)
  have A1 := At.more (At.new1 w (bl, bh) (.cells #[.int .i64 al, .int .i64 ah] 23)) (.cells #[.int .i64 0, .int .i64 0] 23)
  have A2 := At.new2 w (0, 0) (.cells #[.int .i64 al, .int .i64 ah] 23) (.cells #[.int .i64 bl, .int .i64 bh] 23)
  clear hb
  simp only at A0 A1 A2
  generalize ((w.alloc (.cells #[.int .i64 al, .int .i64 ah] 23)).alloc (.cells #[.int .i64 bl, .int .i64 bh] 23)).alloc (.cells #[.int .i64 0, .int .i64 0] 23) = W at *
  have HD1' : Hid (∀ w, Calls Try.prog 53 #[.int .i64 bl] w fun e w' => e = .returned (.int .u64 D1) ∧ Below w.heap.size w w') := fun w => (HD1.out w).mono fun e w' ⟨h1, h2⟩ => ⟨h1, h2 ▸ Below.refl _ _⟩
  have HD2' : Hid (∀ w, Calls Try.prog 53 #[.int .i64 bh] w fun e w' => e = .returned (.int .u64 D2) ∧ Below w.heap.size w w') := fun w => (HD2.out w).mono fun e w' ⟨h1, h2⟩ => ⟨h1, h2 ▸ Below.refl _ _⟩
  have x0 := A1.r0; have x1 := A1.r1
  clear HD1 HD2
  refine wp_region_quiet_below (by kernel_rfl) (by kernel_rfl) ?_
  repeat (go_big_quiet_step (first | (go_at_call_of 53 (Value.int .i64 bl); with_reducible exact Calls.regrown_of (HD1'.out _)) | (go_at_call_of 53 (Value.int .i64 bh); with_reducible exact Calls.regrown_of (HD2'.out _))))
  refine wpQuiet_nil ?_
  intro _ hw'
  obtain ⟨⟨dq, osq⟩, hw''⟩ := hw'
  subst hw''
  have B1 : Below W.heap.size W (grow (redrawn W dq) osq) := below_regrown _ dq osq
  replace A0 := A0.stay B1
  replace A2 := A2.stay B1
  have B2 := Below.on B0 B1
  clear B0 B1 x0 x1 A1 HD1' HD2'
  simp only
  generalize grow (redrawn W dq) osq = W2 at *
  clear W
  have y0 := A0.c0; have y1 := A0.c1; have z0 := A2.c0; have z1 := A2.c1; have z2 := A2.f0; have z3 := A2.f1
  have hR := HR.out
  clear HR
  obtain ⟨M, hM⟩ : ∃ M, M = (if D1 < D2 then D2 else D1) - 1 := ⟨_, rfl⟩
  have hM2 : max D1 D2 - 1 = M := by rw [hM]; split <;> omega
  rw [hM2] at hR
  rw [← hM]
  have HR : Hid (R = (min 0 (max al (-M)), max 0 (min ah M))) := hR
  have hm1 : 0 ≤ M ∧ M ≤ 9223372036854775807 := by omega
  clear hM hM2 hm hR
  go_wp2_with fail
  all_goals exact bodyPost_ret (v := sv R) (by rw [HR.out]; simp [results, Try.results35, go_sem, *] <;> omega) rfl ⟨rfl, (B2.setCell (by simp; omega) _).setCell (by simp; omega) _⟩
end Go.Proofs.Ytbepapbfohfdkaa

/- What Do tells of quotients and rests. -/
namespace Go.Proofs.Ytbepapbfohfdkaa
open Go.RowKit Go.Lib Go.Sort

set_option maxHeartbeats 1000000 in
theorem do_div (al ah bl bh : Int) (h1 : al ≤ ah) (h2 : bl ≤ bh) (ha : Sp.Ok (al, ah)) (h3 : (bl, bh) ≠ (0, 0)) (w : World) : Calls Try.prog 20 #[.int .i64 6, sv (al, ah), sv (bl, bh)] w fun e w' => e = .returned (.tuple #[sv (quoS (al, ah) (bl, bh)), .bool true]) ∧ Below w.heap.size w w' := by
  have HEa : Hid (∀ w, Calls Try.prog 27 #[.agg #[.int .i64 al, .int .i64 ah]] w fun e w' => e = .returned (.bool false) ∧ Below w.heap.size w w') := emF h1
  have HEb : Hid (∀ w, Calls Try.prog 27 #[.agg #[.int .i64 bl, .int .i64 bh]] w fun e w' => e = .returned (.bool false) ∧ Below w.heap.size w w') := emF h2
  have hb := fun (o1 o2 o3 : Obj) => (Below.one (Below.one (Below.one (Below.refl _ w) o1) o2) o3 : Below w.heap.size w _)
  have HC := Hid.mk' fun w => quotients_any (al, ah) (bl, bh) ha h1 w
  generalize quoS (al, ah) (bl, bh) = R at *
  obtain ⟨R1, R2⟩ := R
  have hg := eqGuard_s
  have hq : ∀ w, (Op.equalIn 10000 23 (.agg #[.int .i64 bl, .int .i64 bh]) (.agg #[.int .i64 0, .int .i64 0])).run Try.prog w = .ok false w := fun w => equalIn_F h3 w
  have HP : Hid (∀ w, Calls Try.prog 36 #[.int .i64 0] w fun e w' => e = .returned (.agg #[.int .i64 0, .int .i64 0]) ∧ Below w.heap.size w w') := fun w => point_any 0 w
  clear h1 h2 h3
  go_enter Try.func20, Try.ntmps20
  go_upto_region 17 with (first | (go_at_call_of 27 (Value.agg #[Value.int .i64 al, Value.int .i64 ah]); refine (HEa.out _).mono ?_; rintro e w1 ⟨rfl, hb1⟩; have A0 := At.stay (At.more (At.more (At.new w (al, ah)) _) _) hb1; have A1 := At.stay (At.more (At.new1 w (bl, bh) _) _) hb1; have A2 := At.stay (At.new2 w (0, 0) _ _) hb1; have x0 := A0.c0; have x1 := A0.c1; have y0 := A1.c0; have y1 := A1.c1; have z0 := A2.c0; have z1 := A2.c1; have z2 := A2.f0; have z3 := A2.f1) | (go_at_call_of 27 (Value.agg #[Value.int .i64 bl, Value.int .i64 bh]); refine (HEb.out _).mono ?_; rintro e w2 ⟨rfl, hb2⟩; have D0 := A0.stay hb2; have D1 := A1.stay hb2; have D2 := A2.stay hb2; have u0 := D0.c0; have u1 := D0.c1; have v0 := D1.c0; have v1 := D1.c1; have t0 := D2.c0; have t1 := D2.c1; have t2 := D2.f0; have t3 := D2.f1))
  have BB := (Below.on (Below.on (hb _ _ _) hb1) hb2)
  have r0 := D1.r0; have r1 := D1.r1
  clear x0 x1 y0 y1 z0 z1 z2 z3 u0 u1 v0 v1 t0 t1 t2 t3 A0 A1 A2
  refine wp_region_quiet_below (by kernel_rfl) (by kernel_rfl) ?_
  repeat (go_big_quiet_step ((go_at_call 36; with_reducible exact Calls.regrown_of (HP.out _))))
  refine wpQuiet_nil ?_
  intro _ hw'
  obtain ⟨⟨dq, osq⟩, hw''⟩ := hw'
  subst hw''
  have B5 : Below w2.heap.size w2 (grow (redrawn w2 dq) osq) := below_regrown _ dq osq
  replace D0 := D0.stay B5
  replace D1 := D1.stay B5
  replace D2 := D2.stay B5
  replace BB := Below.on BB B5
  clear B5 r0 r1 hb hb1 hb2
  simp only
  generalize grow (redrawn w2 dq) osq = W2 at *
  have u0 := D0.c0; have u1 := D0.c1; have v0 := D1.c0; have v1 := D1.c1; have t0 := D2.c0; have t1 := D2.c1; have t2 := D2.f0; have t3 := D2.f1
  go_wp2_with (go_at_call 31; refine (HC.out _).mono ?_; rintro e w3 ⟨rfl, hb3⟩; have E2 := D2.stay hb3; have s0 := E2.c0; have s1 := E2.c1; have s2 := E2.f0; have s3 := E2.f1)
  exact bodyPost_ret (v := .tuple #[sv (R1, R2), .bool true]) (by simp [results, Try.results20, go_sem, *]) rfl ⟨rfl, Below.put (Below.on BB hb3) (by omega) _ _⟩
set_option maxHeartbeats 1000000 in
theorem do_divZ (al ah bl bh : Int) (h1 : al ≤ ah) (h2 : bl ≤ bh) (h3 : (bl, bh) = (0, 0)) (w : World) : Calls Try.prog 20 #[.int .i64 6, sv (al, ah), sv (bl, bh)] w fun e w' => e = .returned (.tuple #[sv (0, 0), .bool false]) ∧ Below w.heap.size w w' := by
  have HEa : Hid (∀ w, Calls Try.prog 27 #[.agg #[.int .i64 al, .int .i64 ah]] w fun e w' => e = .returned (.bool false) ∧ Below w.heap.size w w') := emF h1
  have HEb : Hid (∀ w, Calls Try.prog 27 #[.agg #[.int .i64 bl, .int .i64 bh]] w fun e w' => e = .returned (.bool false) ∧ Below w.heap.size w w') := emF h2
  have hb := fun (o1 o2 o3 : Obj) => (Below.one (Below.one (Below.one (Below.refl _ w) o1) o2) o3 : Below w.heap.size w _)
  have hg := eqGuard_s
  have hq : ∀ w, (Op.equalIn 10000 23 (.agg #[.int .i64 bl, .int .i64 bh]) (.agg #[.int .i64 0, .int .i64 0])).run Try.prog w = .ok true w := fun w => equalIn_T h3 w
  have HP : Hid (∀ w, Calls Try.prog 36 #[.int .i64 0] w fun e w' => e = .returned (.agg #[.int .i64 0, .int .i64 0]) ∧ Below w.heap.size w w') := fun w => point_any 0 w
  clear h1 h2 h3
  go_enter Try.func20, Try.ntmps20
  go_upto_region 17 with (first | (go_at_call_of 27 (Value.agg #[Value.int .i64 al, Value.int .i64 ah]); refine (HEa.out _).mono ?_; rintro e w1 ⟨rfl, hb1⟩; have A0 := At.stay (At.more (At.more (At.new w (al, ah)) _) _) hb1; have A1 := At.stay (At.more (At.new1 w (bl, bh) _) _) hb1; have A2 := At.stay (At.new2 w (0, 0) _ _) hb1; have x0 := A0.c0; have x1 := A0.c1; have y0 := A1.c0; have y1 := A1.c1; have z0 := A2.c0; have z1 := A2.c1; have z2 := A2.f0; have z3 := A2.f1) | (go_at_call_of 27 (Value.agg #[Value.int .i64 bl, Value.int .i64 bh]); refine (HEb.out _).mono ?_; rintro e w2 ⟨rfl, hb2⟩; have D0 := A0.stay hb2; have D1 := A1.stay hb2; have D2 := A2.stay hb2; have u0 := D0.c0; have u1 := D0.c1; have v0 := D1.c0; have v1 := D1.c1; have t0 := D2.c0; have t1 := D2.c1; have t2 := D2.f0; have t3 := D2.f1))
  have BB := (Below.on (Below.on (hb _ _ _) hb1) hb2)
  have r0 := D1.r0; have r1 := D1.r1
  clear x0 x1 y0 y1 z0 z1 z2 z3 u0 u1 v0 v1 t0 t1 t2 t3 A0 A1 A2
  refine wp_region_quiet_below (by kernel_rfl) (by kernel_rfl) ?_
  repeat (go_big_quiet_step ((go_at_call 36; with_reducible exact Calls.regrown_of (HP.out _))))
  refine wpQuiet_nil ?_
  intro _ hw'
  obtain ⟨⟨dq, osq⟩, hw''⟩ := hw'
  subst hw''
  have B5 : Below w2.heap.size w2 (grow (redrawn w2 dq) osq) := below_regrown _ dq osq
  replace D0 := D0.stay B5
  replace D1 := D1.stay B5
  replace D2 := D2.stay B5
  replace BB := Below.on BB B5
  clear B5 r0 r1 hb hb1 hb2
  simp only
  generalize grow (redrawn w2 dq) osq = W2 at *
  have u0 := D0.c0; have u1 := D0.c1; have v0 := D1.c0; have v1 := D1.c1; have t0 := D2.c0; have t1 := D2.c1; have t2 := D2.f0; have t3 := D2.f1
  go_wp2_with fail
  exact bodyPost_ret (v := .tuple #[sv (0, 0), .bool false]) (by simp [results, Try.results20, go_sem, *]) rfl ⟨rfl, Below.put BB (by omega) _ _⟩
set_option maxHeartbeats 1000000 in
theorem do_rem (al ah bl bh : Int) (h1 : al ≤ ah) (h2 : bl ≤ bh) (ha : Sp.Ok (al, ah)) (hb' : Sp.Ok (bl, bh)) (h3 : (bl, bh) ≠ (0, 0)) (w : World) : Calls Try.prog 20 #[.int .i64 7, sv (al, ah), sv (bl, bh)] w fun e w' => e = .returned (.tuple #[sv (remS (al, ah) (bl, bh)), .bool true]) ∧ Below w.heap.size w w' := by
  have HEa : Hid (∀ w, Calls Try.prog 27 #[.agg #[.int .i64 al, .int .i64 ah]] w fun e w' => e = .returned (.bool false) ∧ Below w.heap.size w w') := emF h1
  have HEb : Hid (∀ w, Calls Try.prog 27 #[.agg #[.int .i64 bl, .int .i64 bh]] w fun e w' => e = .returned (.bool false) ∧ Below w.heap.size w w') := emF h2
  have hb := fun (o1 o2 o3 : Obj) => (Below.one (Below.one (Below.one (Below.refl _ w) o1) o2) o3 : Below w.heap.size w _)
  have HC := Hid.mk' fun w => remainders_any (al, ah) (bl, bh) ha hb' h3 w
  generalize remS (al, ah) (bl, bh) = R at *
  obtain ⟨R1, R2⟩ := R
  have hg := eqGuard_s
  have hq : ∀ w, (Op.equalIn 10000 23 (.agg #[.int .i64 bl, .int .i64 bh]) (.agg #[.int .i64 0, .int .i64 0])).run Try.prog w = .ok false w := fun w => equalIn_F h3 w
  have HP : Hid (∀ w, Calls Try.prog 36 #[.int .i64 0] w fun e w' => e = .returned (.agg #[.int .i64 0, .int .i64 0]) ∧ Below w.heap.size w w') := fun w => point_any 0 w
  clear h1 h2 h3
  go_enter Try.func20, Try.ntmps20
  go_upto_region 17 with (first | (go_at_call_of 27 (Value.agg #[Value.int .i64 al, Value.int .i64 ah]); refine (HEa.out _).mono ?_; rintro e w1 ⟨rfl, hb1⟩; have A0 := At.stay (At.more (At.more (At.new w (al, ah)) _) _) hb1; have A1 := At.stay (At.more (At.new1 w (bl, bh) _) _) hb1; have A2 := At.stay (At.new2 w (0, 0) _ _) hb1; have x0 := A0.c0; have x1 := A0.c1; have y0 := A1.c0; have y1 := A1.c1; have z0 := A2.c0; have z1 := A2.c1; have z2 := A2.f0; have z3 := A2.f1) | (go_at_call_of 27 (Value.agg #[Value.int .i64 bl, Value.int .i64 bh]); refine (HEb.out _).mono ?_; rintro e w2 ⟨rfl, hb2⟩; have D0 := A0.stay hb2; have D1 := A1.stay hb2; have D2 := A2.stay hb2; have u0 := D0.c0; have u1 := D0.c1; have v0 := D1.c0; have v1 := D1.c1; have t0 := D2.c0; have t1 := D2.c1; have t2 := D2.f0; have t3 := D2.f1))
  have BB := (Below.on (Below.on (hb _ _ _) hb1) hb2)
  have r0 := D1.r0; have r1 := D1.r1
  clear x0 x1 y0 y1 z0 z1 z2 z3 u0 u1 v0 v1 t0 t1 t2 t3 A0 A1 A2
  refine wp_region_quiet_below (by kernel_rfl) (by kernel_rfl) ?_
  repeat (go_big_quiet_step ((go_at_call 36; with_reducible exact Calls.regrown_of (HP.out _))))
  refine wpQuiet_nil ?_
  intro _ hw'
  obtain ⟨⟨dq, osq⟩, hw''⟩ := hw'
  subst hw''
  have B5 : Below w2.heap.size w2 (grow (redrawn w2 dq) osq) := below_regrown _ dq osq
  replace D0 := D0.stay B5
  replace D1 := D1.stay B5
  replace D2 := D2.stay B5
  replace BB := Below.on BB B5
  clear B5 r0 r1 hb hb1 hb2
  simp only
  generalize grow (redrawn w2 dq) osq = W2 at *
  have u0 := D0.c0; have u1 := D0.c1; have v0 := D1.c0; have v1 := D1.c1; have t0 := D2.c0; have t1 := D2.c1; have t2 := D2.f0; have t3 := D2.f1
  go_wp2_with (go_at_call 35; refine (HC.out _).mono ?_; rintro e w3 ⟨rfl, hb3⟩; have E2 := D2.stay hb3; have s0 := E2.c0; have s1 := E2.c1; have s2 := E2.f0; have s3 := E2.f1)
  exact bodyPost_ret (v := .tuple #[sv (R1, R2), .bool true]) (by simp [results, Try.results20, go_sem, *]) rfl ⟨rfl, Below.put (Below.on BB hb3) (by omega) _ _⟩
set_option maxHeartbeats 1000000 in
theorem do_remZ (al ah bl bh : Int) (h1 : al ≤ ah) (h2 : bl ≤ bh) (h3 : (bl, bh) = (0, 0)) (w : World) : Calls Try.prog 20 #[.int .i64 7, sv (al, ah), sv (bl, bh)] w fun e w' => e = .returned (.tuple #[sv (0, 0), .bool false]) ∧ Below w.heap.size w w' := by
  have HEa : Hid (∀ w, Calls Try.prog 27 #[.agg #[.int .i64 al, .int .i64 ah]] w fun e w' => e = .returned (.bool false) ∧ Below w.heap.size w w') := emF h1
  have HEb : Hid (∀ w, Calls Try.prog 27 #[.agg #[.int .i64 bl, .int .i64 bh]] w fun e w' => e = .returned (.bool false) ∧ Below w.heap.size w w') := emF h2
  have hb := fun (o1 o2 o3 : Obj) => (Below.one (Below.one (Below.one (Below.refl _ w) o1) o2) o3 : Below w.heap.size w _)
  have hg := eqGuard_s
  have hq : ∀ w, (Op.equalIn 10000 23 (.agg #[.int .i64 bl, .int .i64 bh]) (.agg #[.int .i64 0, .int .i64 0])).run Try.prog w = .ok true w := fun w => equalIn_T h3 w
  have HP : Hid (∀ w, Calls Try.prog 36 #[.int .i64 0] w fun e w' => e = .returned (.agg #[.int .i64 0, .int .i64 0]) ∧ Below w.heap.size w w') := fun w => point_any 0 w
  clear h1 h2 h3
  go_enter Try.func20, Try.ntmps20
  go_upto_region 17 with (first | (go_at_call_of 27 (Value.agg #[Value.int .i64 al, Value.int .i64 ah]); refine (HEa.out _).mono ?_; rintro e w1 ⟨rfl, hb1⟩; have A0 := At.stay (At.more (At.more (At.new w (al, ah)) _) _) hb1; have A1 := At.stay (At.more (At.new1 w (bl, bh) _) _) hb1; have A2 := At.stay (At.new2 w (0, 0) _ _) hb1; have x0 := A0.c0; have x1 := A0.c1; have y0 := A1.c0; have y1 := A1.c1; have z0 := A2.c0; have z1 := A2.c1; have z2 := A2.f0; have z3 := A2.f1) | (go_at_call_of 27 (Value.agg #[Value.int .i64 bl, Value.int .i64 bh]); refine (HEb.out _).mono ?_; rintro e w2 ⟨rfl, hb2⟩; have D0 := A0.stay hb2; have D1 := A1.stay hb2; have D2 := A2.stay hb2; have u0 := D0.c0; have u1 := D0.c1; have v0 := D1.c0; have v1 := D1.c1; have t0 := D2.c0; have t1 := D2.c1; have t2 := D2.f0; have t3 := D2.f1))
  have BB := (Below.on (Below.on (hb _ _ _) hb1) hb2)
  have r0 := D1.r0; have r1 := D1.r1
  clear x0 x1 y0 y1 z0 z1 z2 z3 u0 u1 v0 v1 t0 t1 t2 t3 A0 A1 A2
  refine wp_region_quiet_below (by kernel_rfl) (by kernel_rfl) ?_
  repeat (go_big_quiet_step ((go_at_call 36; with_reducible exact Calls.regrown_of (HP.out _))))
  refine wpQuiet_nil ?_
  intro _ hw'
  obtain ⟨⟨dq, osq⟩, hw''⟩ := hw'
  subst hw''
  have B5 : Below w2.heap.size w2 (grow (redrawn w2 dq) osq) := below_regrown _ dq osq
  replace D0 := D0.stay B5
  replace D1 := D1.stay B5
  replace D2 := D2.stay B5
  replace BB := Below.on BB B5
  clear B5 r0 r1 hb hb1 hb2
  simp only
  generalize grow (redrawn w2 dq) osq = W2 at *
  have u0 := D0.c0; have u1 := D0.c1; have v0 := D1.c0; have v1 := D1.c1; have t0 := D2.c0; have t1 := D2.c1; have t2 := D2.f0; have t3 := D2.f1
  go_wp2_with fail
  exact bodyPost_ret (v := .tuple #[sv (0, 0), .bool false]) (by simp [results, Try.results20, go_sem, *]) rfl ⟨rfl, Below.put BB (by omega) _ _⟩
end Go.Proofs.Ytbepapbfohfdkaa

/- What Do tells. -/
namespace Go.Proofs.Ytbepapbfohfdkaa
open Go.RowKit Go.Lib Go.Sort

def doR (op : Int) (a b : Sp) : Sp := (doS op a b).getD (0, 0)
def doB (op : Int) (a b : Sp) : Bool := (doS op a b).isSome
theorem do_some {op : Int} {a b s : Sp} (h : doS op a b = some s) : doR op a b = s ∧ doB op a b = true := by unfold doR doB; rw [h]; exact ⟨rfl, rfl⟩
theorem do_none {op : Int} {a b : Sp} (h : doS op a b = none) : doR op a b = (0, 0) ∧ doB op a b = false := by unfold doR doB; rw [h]; exact ⟨rfl, rfl⟩
theorem em_no {l h : Int} (H : l ≤ h) : emB (l, h) = false := decide_eq_false (by simp only; omega)
theorem em_yes {l h : Int} (H : h < l) : emB (l, h) = true := decide_eq_true H
theorem doS_op {op : Int} {a b : Sp} (ha : emB a = false) (hb : emB b = false) : doS op a b =
    (if op = 3 then some (sumS a b) else if op = 4 then some (difS a b) else if op = 5 then some (proS a b) else if op = 6 then (if b = (0, 0) then none else some (quoS a b)) else if op = 7 then (if b = (0, 0) then none else some (remS a b))
     else if op = 8 then some (tru (decide (a.2 < b.1)) (decide (b.2 ≤ a.1))) else if op = 9 then some (tru (sgB a && decide (a = b)) (!meetB a b)) else if op = 10 then some (tru (decide (a = (0, 0))) (!hasB a 0)) else none) := by
  unfold doS
  rw [ha, hb]
  simp only [Bool.false_and, Bool.or_false, Bool.false_eq_true, if_false]
theorem do_any (op : Int) (a b : Sp) (ha : a.Ok) (hb : b.Ok) (w : World) : Calls Try.prog 20 #[.int .i64 op, sv a, sv b] w fun e w' => e = .returned (.tuple #[sv (doR op a b), .bool (doB op a b)]) ∧ Below w.heap.size w w' := by
  obtain ⟨al, ah⟩ := a
  obtain ⟨bl, bh⟩ := b
  by_cases h1 : al ≤ ah
  · have ea := em_no h1
    by_cases o10 : op = 10
    · subst o10
      have hd : doS 10 (al, ah) (bl, bh) = some (tru (al == 0 && ah == 0) (!hasB (al, ah) 0)) := by
        rw [eq_and]
        unfold doS
        rw [ea]
        simp
      obtain ⟨e1, e2⟩ := do_some hd
      rw [e1, e2]
      by_cases h2 : bl ≤ bh
      · exact do_notF al ah bl bh h1 h2 w
      · exact do_notT al ah bl bh h1 (by omega) w
    · by_cases h2 : bl ≤ bh
      · have eb := em_no h2
        have hd := doS_op (op := op) ea eb
        by_cases o3 : op = 3
        · subst o3
          obtain ⟨e1, e2⟩ := do_some (hd.trans (by simp; rfl))
          rw [e1, e2]
          exact do_add al ah bl bh h1 h2 ha hb w
        by_cases o4 : op = 4
        · subst o4
          obtain ⟨e1, e2⟩ := do_some (hd.trans (by simp; rfl))
          rw [e1, e2]
          exact do_sub al ah bl bh h1 h2 ha hb w
        by_cases o5 : op = 5
        · subst o5
          obtain ⟨e1, e2⟩ := do_some (hd.trans (by simp; rfl))
          rw [e1, e2]
          exact do_mul al ah bl bh h1 h2 ha hb w
        by_cases o6 : op = 6
        · subst o6
          by_cases hz : (bl, bh) = (0, 0)
          · obtain ⟨e1, e2⟩ := do_none (hd.trans (by rw [hz]; simp))
            rw [e1, e2]
            exact do_divZ al ah bl bh h1 h2 hz w
          · obtain ⟨e1, e2⟩ := do_some (hd.trans (by rw [if_neg hz]; simp; rfl))
            rw [e1, e2]
            exact do_div al ah bl bh h1 h2 ha hz w
        by_cases o7 : op = 7
        · subst o7
          by_cases hz : (bl, bh) = (0, 0)
          · obtain ⟨e1, e2⟩ := do_none (hd.trans (by rw [hz]; simp))
            rw [e1, e2]
            exact do_remZ al ah bl bh h1 h2 hz w
          · obtain ⟨e1, e2⟩ := do_some (hd.trans (by rw [if_neg hz, if_neg hz]; simp; rfl))
            rw [e1, e2]
            exact do_rem al ah bl bh h1 h2 ha hb hz w
        by_cases o8 : op = 8
        · subst o8
          obtain ⟨e1, e2⟩ := do_some (hd.trans (by simp; rfl))
          rw [e1, e2]
          exact do_less al ah bl bh h1 h2 w
        by_cases o9 : op = 9
        · subst o9
          have hd' : doS 9 (al, ah) (bl, bh) = some (tru (sgB (al, ah) && decide ((al, ah) = (bl, bh))) (!meetB (al, ah) (bl, bh))) := hd.trans (by simp)
          obtain ⟨e1, e2⟩ := do_some hd'
          rw [e1, e2]
          by_cases h3 : al = ah
          · have e3 : sgB (al, ah) = true := decide_eq_true h3
            rw [e3]
            by_cases h4 : (al, ah) = (bl, bh)
            · rw [decide_eq_true h4]
              exact do_equal11 al ah bl bh h1 h2 h3 h4 w
            · rw [decide_eq_false h4]
              exact do_equal10 al ah bl bh h1 h2 h3 h4 w
          · have e3 : sgB (al, ah) = false := decide_eq_false h3
            rw [e3]
            exact do_equal00 al ah bl bh h1 h2 h3 w
        obtain ⟨e1, e2⟩ := do_none (hd.trans (by simp [o3, o4, o5, o6, o7, o8, o9, o10]))
        rw [e1, e2]
        exact do_other op al ah bl bh h1 h2 o3 o4 o5 o6 o7 o8 o9 o10 w
      · have eb := em_yes (show bh < bl by omega)
        obtain ⟨e1, e2⟩ := do_none (show doS op (al, ah) (bl, bh) = none by unfold doS; rw [ea, eb]; simp [o10])
        rw [e1, e2]
        exact do_emB op al ah bl bh h1 (by omega) o10 w
  · have ea := em_yes (show ah < al by omega)
    obtain ⟨e1, e2⟩ := do_none (show doS op (al, ah) (bl, bh) = none by unfold doS; rw [ea]; simp)
    rw [e1, e2]
    exact do_emA op al ah bl bh (by omega) w
end Go.Proofs.Ytbepapbfohfdkaa

/- Spans: floor and roof among thresholds. -/
namespace Go.Proofs.Ytbepapbfohfdkaa
open Go.RowKit Go.Lib Go.Sort

set_option maxHeartbeats 1000000 in
theorem floor_any (ts : List Int) (n : Int) (a : Option Addr) (c : Nat) (hl : ts.length < 4611686018427387904) (w : World) (ht : Ths w a ts) : Calls Try.prog 46 #[.slice a ts.length c, .int .i64 n] w fun e w' => e = .returned (.int .i64 (floorN ts n)) ∧ w' = w := by
  have HN : Hid (floorN ts n = flo n (ts.take ts.length) (-9223372036854775808)) := by show _ = _; rw [List.take_length]; rfl
  generalize floorN ts n = R at *
  generalize hL : ts.length = L at *
  go_enter Try.func46, Try.ntmps46
  go_wp2_with fail
  go_loopw [5, 10] (fun t5 t10 wr => wr = w ∧ ∃ k : Nat, k ≤ L ∧ t10 = .int .i64 k ∧ t5 = .int .i64 (flo n (ts.take k) (-9223372036854775808))) (fun _ t10 _ => L - (intOf t10).toNat)
  case atStart => exact ⟨rfl, 0, by omega, rfl, rfl⟩
  case round =>
    obtain ⟨rfl, k, hk, rfl, rfl⟩ := hrel
    by_cases hlt : k < L
    · have hli : (k : Int) < L := by omega
      obtain ⟨t, hg⟩ : ∃ t, ts[k]? = some t := ⟨_, List.getElem?_eq_getElem (by omega)⟩
      obtain ⟨b, o, rfl, hc⟩ := ht.cell hg
      have HS : Hid (flo n (ts.take (k + 1)) (-9223372036854775808) = if t ≤ n then max (flo n (ts.take k) (-9223372036854775808)) t else flo n (ts.take k) (-9223372036854775808)) := by
        show _ = _
        unfold flo
        rw [List.take_add_one, hg]
        simp only [Option.toList_some, List.foldl_append, List.foldl_cons, List.foldl_nil]
      generalize flo n (ts.take k) (-9223372036854775808) = s at *
      go_wp2_with fail
      all_goals go_roundw
      all_goals first
        | (refine ⟨trivial, k + 1, by omega, by go_num, ?_⟩; rw [HS.out]; refine congrArg (Value.int .i64) ?_; split <;> omega)
        | (simp [intOf]; omega)
    · have hkL : k = L := by omega
      subst hkL
      have hli : ¬ (k : Int) < k := by omega
      rw [← HN.out]
      go_wp2_with fail
      go_ret
      exact ⟨rfl, rfl⟩
set_option maxHeartbeats 1000000 in
theorem roof_any (ts : List Int) (n : Int) (a : Option Addr) (c : Nat) (hl : ts.length < 4611686018427387904) (w : World) (ht : Ths w a ts) : Calls Try.prog 47 #[.slice a ts.length c, .int .i64 n] w fun e w' => e = .returned (.int .i64 (roofN ts n)) ∧ w' = w := by
  have HN : Hid (roofN ts n = roo n (ts.take ts.length) (9223372036854775807)) := by show _ = _; rw [List.take_length]; rfl
  generalize roofN ts n = R at *
  generalize hL : ts.length = L at *
  go_enter Try.func47, Try.ntmps47
  go_wp2_with fail
  go_loopw [5, 10] (fun t5 t10 wr => wr = w ∧ ∃ k : Nat, k ≤ L ∧ t10 = .int .i64 k ∧ t5 = .int .i64 (roo n (ts.take k) (9223372036854775807))) (fun _ t10 _ => L - (intOf t10).toNat)
  case atStart => exact ⟨rfl, 0, by omega, rfl, rfl⟩
  case round =>
    obtain ⟨rfl, k, hk, rfl, rfl⟩ := hrel
    by_cases hlt : k < L
    · have hli : (k : Int) < L := by omega
      obtain ⟨t, hg⟩ : ∃ t, ts[k]? = some t := ⟨_, List.getElem?_eq_getElem (by omega)⟩
      obtain ⟨b, o, rfl, hc⟩ := ht.cell hg
      have HS : Hid (roo n (ts.take (k + 1)) (9223372036854775807) = if n ≤ t then min (roo n (ts.take k) (9223372036854775807)) t else roo n (ts.take k) (9223372036854775807)) := by
        show _ = _
        unfold roo
        rw [List.take_add_one, hg]
        simp only [Option.toList_some, List.foldl_append, List.foldl_cons, List.foldl_nil]
      generalize roo n (ts.take k) (9223372036854775807) = s at *
      go_wp2_with fail
      all_goals go_roundw
      all_goals first
        | (refine ⟨trivial, k + 1, by omega, by go_num, ?_⟩; rw [HS.out]; refine congrArg (Value.int .i64) ?_; split <;> omega)
        | (simp [intOf]; omega)
    · have hkL : k = L := by omega
      subst hkL
      have hli : ¬ (k : Int) < k := by omega
      rw [← HN.out]
      go_wp2_with fail
      go_ret
      exact ⟨rfl, rfl⟩
end Go.Proofs.Ytbepapbfohfdkaa

/- Spans: Widen. -/
namespace Go.Proofs.Ytbepapbfohfdkaa
open Go.RowKit Go.Lib Go.Sort

set_option maxHeartbeats 1000000 in
theorem widen_no (al ah bl bh : Int) (ts : List Int) (a : Option Addr) (c : Nat) (h1 : ah < al) (w : World) : Calls Try.prog 24 #[sv (al, ah), sv (bl, bh), .slice a ts.length c] w fun e w' => e = .returned (sv (bl, bh)) ∧ Below w.heap.size w w' := by
  have HE : Hid (∀ w, Calls Try.prog 27 #[.agg #[.int .i64 al, .int .i64 ah]] w fun e w' => e = .returned (.bool true) ∧ Below w.heap.size w w') := emT h1
  have hb := fun (o1 o2 o3 : Obj) => (Below.one (Below.one (Below.one (Below.refl _ w) o1) o2) o3 : Below w.heap.size w _)
  clear h1
  go_enter Try.func24, Try.ntmps24
  go_wp2_with (go_at_call_of 27 (Value.agg #[Value.int .i64 al, Value.int .i64 ah]); refine (HE.out _).mono ?_; rintro e w1 ⟨rfl, hb1⟩; have A0 := At.stay (At.more (At.more (At.new w (al, ah)) _) _) hb1; have A1 := At.stay (At.more (At.new1 w (bl, bh) _) _) hb1; have A2 := At.stay (At.new2 w (0, 0) _ _) hb1; have x0 := A0.c0; have x1 := A0.c1; have y0 := A1.c0; have y1 := A1.c1; have z0 := A2.c0; have z1 := A2.c1; have z2 := A2.f0; have z3 := A2.f1)
  exact bodyPost_ret (v := sv (bl, bh)) (by simp [results, Try.results24, go_sem, *]) rfl ⟨rfl, Below.put (Below.on (hb _ _ _) hb1) (by omega) _ _⟩
set_option maxHeartbeats 2000000 in
theorem widen_core (al ah bl bh : Int) (ts : List Int) (a : Option Addr) (c : Nat) (h1 : al ≤ ah) (hl : ts.length < 4611686018427387904) (w : World) (ht : Ths w a ts) : Calls Try.prog 24 #[sv (al, ah), sv (bl, bh), .slice a ts.length c] w fun e w' => e = .returned (sv (widS (al, ah) (bl, bh) ts)) ∧ Below w.heap.size w w' := by
  have HE : Hid (∀ w, Calls Try.prog 27 #[.agg #[.int .i64 al, .int .i64 ah]] w fun e w' => e = .returned (.bool false) ∧ Below w.heap.size w w') := emF h1
  have HJ := Hid.mk' fun w => join_any (al, ah) (bl, bh) w
  have HW : Hid (widS (al, ah) (bl, bh) ts = (if (joinS (al, ah) (bl, bh)).1 = al then (joinS (al, ah) (bl, bh)).1 else floorN ts (joinS (al, ah) (bl, bh)).1, if (joinS (al, ah) (bl, bh)).2 = ah then (joinS (al, ah) (bl, bh)).2 else roofN ts (joinS (al, ah) (bl, bh)).2)) := if_neg (by simp only; omega)
  generalize widS (al, ah) (bl, bh) ts = R at *
  obtain ⟨R1, R2⟩ := R
  generalize joinS (al, ah) (bl, bh) = J at *
  obtain ⟨j1, j2⟩ := J
  simp only at HJ HW
  have HF : Hid (∀ w, Ths w a ts → Calls Try.prog 46 #[.slice a ts.length c, .int .i64 j1] w fun e w' => e = .returned (.int .i64 (floorN ts j1)) ∧ w' = w) := fun w h => floor_any ts j1 a c hl w h
  have HG : Hid (∀ w, Ths w a ts → Calls Try.prog 47 #[.slice a ts.length c, .int .i64 j2] w fun e w' => e = .returned (.int .i64 (roofN ts j2)) ∧ w' = w) := fun w h => roof_any ts j2 a c hl w h
  generalize floorN ts j1 = f1 at *
  generalize roofN ts j2 = f2 at *
  generalize ts.length = L at *
  have hb := fun (o1 o2 o3 : Obj) => (Below.one (Below.one (Below.one (Below.refl _ w) o1) o2) o3 : Below w.heap.size w _)
  clear h1 hl
  go_enter Try.func24, Try.ntmps24
  go_upto_region 4 with (first | (go_at_call_of 27 (Value.agg #[Value.int .i64 al, Value.int .i64 ah]); refine (HE.out _).mono ?_; rintro e w1 ⟨rfl, hb1⟩; have A0 := At.stay (At.more (At.more (At.new w (al, ah)) _) _) hb1; have A1 := At.stay (At.more (At.new1 w (bl, bh) _) _) hb1; have A2 := At.stay (At.new2 w (0, 0) _ _) hb1; have x0 := A0.c0; have x1 := A0.c1; have y0 := A1.c0; have y1 := A1.c1; have z0 := A2.c0; have z1 := A2.c1; have z2 := A2.f0; have z3 := A2.f1) | (go_at_call 16; refine (HJ.out _).mono ?_; rintro e w2 ⟨rfl, hb2⟩))
  have B := Below.one (Below.on (Below.on (hb _ _ _) hb1) hb2) (.cells #[.int .i64 j1, .int .i64 j2] 23)
  replace A0 := A0.on (.cells #[.int .i64 j1, .int .i64 j2] 23) hb2
  replace A2 := A2.on (.cells #[.int .i64 j1, .int .i64 j2] 23) hb2
  have A3 := At.new w2 (j1, j2)
  have hsz : w.heap.size + 2 < w2.heap.size := by have := hb1.size; have := hb2.size; simp only [World.size_alloc] at *; omega
  simp only at A3
  clear hb hb1 hb2 HE HJ x0 x1 y0 y1 z0 z1 z2 z3 A1
  generalize w2.alloc (.cells #[.int .i64 j1, .int .i64 j2] 23) = W at *
  generalize w2.heap.size = gO at *
  have T0 := ht.stay B
  have T1 : ∀ x, Ths (W.setCell ⟨gO, 0, none⟩ x) a ts := fun x => ht.stay (B.setCell (by simp only; omega) x)
  clear ht
  have x0 := A0.c0; have x1 := A0.c1; have z0 := A2.c0; have z1 := A2.c1; have z2 := A2.f0; have z3 := A2.f1; have u0 := A3.c0; have u1 := A3.c1; have u2 := A3.f0; have u3 := A3.f1
  have hne1 : w.heap.size + 1 + 1 ≠ gO := by omega
  have hne2 : w.heap.size ≠ gO := by omega
  have hW := HW.out
  clear HW
  by_cases e1 : j1 = al
  · by_cases e2 : j2 = ah
    · rw [if_pos e1, if_pos e2] at hW
      obtain ⟨rfl, rfl⟩ := Prod.mk.inj hW
      clear hW
      have q1 : (R1 == al) = true := by simp [e1]
      have q2 : (R2 == ah) = true := by simp [e2]
      clear e1 e2
      go_wp2_with fail
      exact bodyPost_ret (v := sv (R1, R2)) (by simp [results, Try.results24, go_sem, *]) rfl ⟨rfl, Below.put B (by omega) _ _⟩
    · rw [if_pos e1, if_neg e2] at hW
      obtain ⟨rfl, rfl⟩ := Prod.mk.inj hW
      clear hW
      have q1 : (R1 == al) = true := by simp [e1]
      have q2 : (j2 == ah) = false := by simp [e2]
      clear e1 e2
      go_wp2_with (go_at_call 47; refine (HG.out _ T0).mono ?_; rintro e w5 ⟨rfl, hw5⟩; rw [hw5]; clear hw5)
      exact bodyPost_ret (v := sv (R1, R2)) (by simp [results, Try.results24, go_sem, *]) rfl ⟨rfl, Below.put (B.setCell (by simp only; omega) _) (by omega) _ _⟩
  · by_cases e2 : j2 = ah
    · rw [if_neg e1, if_pos e2] at hW
      obtain ⟨rfl, rfl⟩ := Prod.mk.inj hW
      clear hW
      have q1 : (j1 == al) = false := by simp [e1]
      have q2 : (R2 == ah) = true := by simp [e2]
      clear e1 e2
      go_wp2_with (go_at_call 46; refine (HF.out _ T0).mono ?_; rintro e w5 ⟨rfl, hw5⟩; rw [hw5]; clear hw5)
      exact bodyPost_ret (v := sv (R1, R2)) (by simp [results, Try.results24, go_sem, *]) rfl ⟨rfl, Below.put (B.setCell (by simp only; omega) _) (by omega) _ _⟩
    · rw [if_neg e1, if_neg e2] at hW
      obtain ⟨rfl, rfl⟩ := Prod.mk.inj hW
      clear hW
      have q1 : (j1 == al) = false := by simp [e1]
      have q2 : (j2 == ah) = false := by simp [e2]
      clear e1 e2
      go_wp2_with (first | (go_at_call 46; refine (HF.out _ T0).mono ?_; rintro e w5 ⟨rfl, hw5⟩; rw [hw5]; clear hw5) | (go_at_call 47; refine (HG.out _ (T1 _)).mono ?_; rintro e w5 ⟨rfl, hw5⟩; rw [hw5]; clear hw5))
      exact bodyPost_ret (v := sv (R1, R2)) (by simp [results, Try.results24, go_sem, *]) rfl ⟨rfl, Below.put ((B.setCell (by simp only; omega) _).setCell (by simp only; omega) _) (by omega) _ _⟩
theorem widen_any (o n : Sp) (ts : List Int) (a : Option Addr) (c : Nat) (hl : ts.length < 4611686018427387904) (w : World) (ht : Ths w a ts) : Calls Try.prog 24 #[sv o, sv n, .slice a ts.length c] w fun e w' => e = .returned (sv (widS o n ts)) ∧ Below w.heap.size w w' := by
  obtain ⟨al, ah⟩ := o
  obtain ⟨bl, bh⟩ := n
  by_cases h : ah < al
  · rw [show widS (al, ah) (bl, bh) ts = (bl, bh) from if_pos h]
    exact widen_no al ah bl bh ts a c h w
  · exact widen_core al ah bl bh ts a c (by omega) hl w ht
end Go.Proofs.Ytbepapbfohfdkaa

/- Spans: what is left of two where the one's number is below the other's. -/
namespace Go.Proofs.Ytbepapbfohfdkaa
open Go.RowKit Go.Lib Go.Sort

set_option maxHeartbeats 2000000 in
theorem below_any (a b : Sp) (ha : a.Ok) (hb' : b.Ok) (w : World) : Calls Try.prog 22 #[sv a, sv b] w fun e w' => e = .returned (.tuple #[sv (belA a b), sv (belC a b), .bool (belB a b)]) ∧ Below w.heap.size w w' := by
  obtain ⟨al, ah⟩ := a
  obtain ⟨bl, bh⟩ := b
  have hn1 := ha.1
  have hn2 := hb'.2
  unfold Nm at hn1 hn2
  simp only at hn1 hn2
  clear ha hb'
  have HE := Hid.mk' empV
  have hb := fun (o1 o2 o3 o4 : Obj) => (Below.one (Below.one (Below.one (Below.one (Below.refl _ w) o1) o2) o3) o4 : Below w.heap.size w _)
  by_cases h1 : ah < al
  · skip
    have e1 : belB (al, ah) (bl, bh) = false := decide_eq_false (by simp only; omega)
    have e2 : belA (al, ah) (bl, bh) = (0, 0) := if_neg (by simp only; omega)
    have e3 : belC (al, ah) (bl, bh) = (0, 0) := if_neg (by simp only; omega)
    rw [e1, e2, e3]
    clear e1 e2 e3
    have hu : undef = Value.tuple #[] := rfl
    go_enter Try.func22, Try.ntmps22
    go_wp2_with (go_at_call_of 27 (Value.agg #[Value.int .i64 al, Value.int .i64 ah]); refine (HE.out _ _ _).mono ?_; rintro e w1 ⟨rfl, hb1⟩; have A0 := At.stay (At.more (At.more (At.more (At.new w (al, ah)) _) _) _) hb1; have A1 := At.stay (At.more (At.more (At.new1 w (bl, bh) _) _) _) hb1; have A2 := At.stay (At.more (At.new2 w (0, 0) _ _) _) hb1; have A3 := At.stay (At.new3 w (0, 0) _ _ _) hb1; have x0 := A0.c0; have x1 := A0.c1; have y0 := A1.c0; have y1 := A1.c1; have z0 := A2.c0; have z1 := A2.c1; have z2 := A2.f0; have z3 := A2.f1; have q0 := A3.c0; have q1 := A3.c1; have q2 := A3.f0; have q3 := A3.f1)
    exact bodyPost_ret (v := .tuple #[sv (0, 0), sv (0, 0), .bool false]) (by simp [results, Try.results22, go_sem, *]) rfl ⟨rfl, ((((Below.on (hb _ _ _ _) hb1).setCell (by simp; omega) _).setCell (by simp; omega) _).setCell (by simp; omega) _).setCell (by simp; omega) _⟩
  · by_cases h2 : bh < bl
    · skip
      have e1 : belB (al, ah) (bl, bh) = false := decide_eq_false (by simp only; omega)
      have e2 : belA (al, ah) (bl, bh) = (0, 0) := if_neg (by simp only; omega)
      have e3 : belC (al, ah) (bl, bh) = (0, 0) := if_neg (by simp only; omega)
      rw [e1, e2, e3]
      clear e1 e2 e3
      have hu : undef = Value.tuple #[] := rfl
      go_enter Try.func22, Try.ntmps22
      go_wp2_with (first | (go_at_call_of 27 (Value.agg #[Value.int .i64 al, Value.int .i64 ah]); refine (HE.out _ _ _).mono ?_; rintro e w1 ⟨rfl, hb1⟩; have A0 := At.stay (At.more (At.more (At.more (At.new w (al, ah)) _) _) _) hb1; have A1 := At.stay (At.more (At.more (At.new1 w (bl, bh) _) _) _) hb1; have A2 := At.stay (At.more (At.new2 w (0, 0) _ _) _) hb1; have A3 := At.stay (At.new3 w (0, 0) _ _ _) hb1; have x0 := A0.c0; have x1 := A0.c1; have y0 := A1.c0; have y1 := A1.c1; have z0 := A2.c0; have z1 := A2.c1; have z2 := A2.f0; have z3 := A2.f1; have q0 := A3.c0; have q1 := A3.c1; have q2 := A3.f0; have q3 := A3.f1) | (go_at_call_of 27 (Value.agg #[Value.int .i64 bl, Value.int .i64 bh]); refine (HE.out _ _ _).mono ?_; rintro e w2 ⟨rfl, hb2⟩; have D0 := A0.stay hb2; have D1 := A1.stay hb2; have D2 := A2.stay hb2; have D3 := A3.stay hb2; have u0 := D0.c0; have u1 := D0.c1; have v0 := D1.c0; have v1 := D1.c1; have t0 := D2.c0; have t1 := D2.c1; have t2 := D2.f0; have t3 := D2.f1; have r0 := D3.c0; have r1 := D3.c1; have r2 := D3.f0; have r3 := D3.f1))
      exact bodyPost_ret (v := .tuple #[sv (0, 0), sv (0, 0), .bool false]) (by simp [results, Try.results22, go_sem, *]) rfl ⟨rfl, ((((Below.on (Below.on (hb _ _ _ _) hb1) hb2).setCell (by simp; omega) _).setCell (by simp; omega) _).setCell (by simp; omega) _).setCell (by simp; omega) _⟩
    · by_cases h3 : bh ≤ al
      · skip
        have e1 : belB (al, ah) (bl, bh) = false := decide_eq_false (by simp only; omega)
        have e2 : belA (al, ah) (bl, bh) = (0, 0) := if_neg (by simp only; omega)
        have e3 : belC (al, ah) (bl, bh) = (0, 0) := if_neg (by simp only; omega)
        rw [e1, e2, e3]
        clear e1 e2 e3
        go_enter Try.func22, Try.ntmps22
        go_wp2_with (first | (go_at_call_of 27 (Value.agg #[Value.int .i64 al, Value.int .i64 ah]); refine (HE.out _ _ _).mono ?_; rintro e w1 ⟨rfl, hb1⟩; have A0 := At.stay (At.more (At.more (At.more (At.new w (al, ah)) _) _) _) hb1; have A1 := At.stay (At.more (At.more (At.new1 w (bl, bh) _) _) _) hb1; have A2 := At.stay (At.more (At.new2 w (0, 0) _ _) _) hb1; have A3 := At.stay (At.new3 w (0, 0) _ _ _) hb1; have x0 := A0.c0; have x1 := A0.c1; have y0 := A1.c0; have y1 := A1.c1; have z0 := A2.c0; have z1 := A2.c1; have z2 := A2.f0; have z3 := A2.f1; have q0 := A3.c0; have q1 := A3.c1; have q2 := A3.f0; have q3 := A3.f1) | (go_at_call_of 27 (Value.agg #[Value.int .i64 bl, Value.int .i64 bh]); refine (HE.out _ _ _).mono ?_; rintro e w2 ⟨rfl, hb2⟩; have D0 := A0.stay hb2; have D1 := A1.stay hb2; have D2 := A2.stay hb2; have D3 := A3.stay hb2; have u0 := D0.c0; have u1 := D0.c1; have v0 := D1.c0; have v1 := D1.c1; have t0 := D2.c0; have t1 := D2.c1; have t2 := D2.f0; have t3 := D2.f1; have r0 := D3.c0; have r1 := D3.c1; have r2 := D3.f0; have r3 := D3.f1))
        exact bodyPost_ret (v := .tuple #[sv (0, 0), sv (0, 0), .bool false]) (by simp [results, Try.results22, go_sem, *]) rfl ⟨rfl, ((((Below.on (Below.on (hb _ _ _ _) hb1) hb2).setCell (by simp; omega) _).setCell (by simp; omega) _).setCell (by simp; omega) _).setCell (by simp; omega) _⟩
      · have e1 : belB (al, ah) (bl, bh) = true := decide_eq_true (by simp only; omega)
        have e2 : belA (al, ah) (bl, bh) = (al, min ah (bh - 1)) := if_pos (by simp only; omega)
        have e3 : belC (al, ah) (bl, bh) = (max bl (al + 1), bh) := if_pos (by simp only; omega)
        rw [e1, e2, e3]
        clear e1 e2 e3
        go_enter Try.func22, Try.ntmps22
        go_upto_region 3 with (first | (go_at_call_of 27 (Value.agg #[Value.int .i64 al, Value.int .i64 ah]); refine (HE.out _ _ _).mono ?_; rintro e w1 ⟨rfl, hb1⟩; have A0 := At.stay (At.more (At.more (At.more (At.new w (al, ah)) _) _) _) hb1; have A1 := At.stay (At.more (At.more (At.new1 w (bl, bh) _) _) _) hb1; have A2 := At.stay (At.more (At.new2 w (0, 0) _ _) _) hb1; have A3 := At.stay (At.new3 w (0, 0) _ _ _) hb1; have x0 := A0.c0; have x1 := A0.c1; have y0 := A1.c0; have y1 := A1.c1; have z0 := A2.c0; have z1 := A2.c1; have z2 := A2.f0; have z3 := A2.f1; have q0 := A3.c0; have q1 := A3.c1; have q2 := A3.f0; have q3 := A3.f1) | (go_at_call_of 27 (Value.agg #[Value.int .i64 bl, Value.int .i64 bh]); refine (HE.out _ _ _).mono ?_; rintro e w2 ⟨rfl, hb2⟩; have D0 := A0.stay hb2; have D1 := A1.stay hb2; have D2 := A2.stay hb2; have D3 := A3.stay hb2; have u0 := D0.c0; have u1 := D0.c1; have v0 := D1.c0; have v1 := D1.c1; have t0 := D2.c0; have t1 := D2.c1; have t2 := D2.f0; have t3 := D2.f1; have r0 := D3.c0; have r1 := D3.c1; have r2 := D3.f0; have r3 := D3.f1))
        have B := (Below.on (Below.on (hb _ _ _ _) hb1) hb2)
        clear x0 x1 y0 y1 z0 z1 z2 z3 q0 q1 q2 q3 A0 A1 A2 A3 D0 D1 D2 D3 hb1 hb2 hb HE
        have q1 : (if bh - 1 < ah then bh - 1 else ah) = min ah (bh - 1) := by omega
        have q2 : (if bl < al + 1 then al + 1 else bl) = max bl (al + 1) := by omega
        have Hq := Hid.mk' (And.intro q1 q2)
        clear q1 q2
        go_region
        rw [Hq.out.1, Hq.out.2]
        clear Hq
        go_wp2_with fail
        exact bodyPost_ret (v := .tuple #[sv (al, min ah (bh - 1)), sv (max bl (al + 1), bh), .bool true]) (by simp [results, Try.results22, go_sem, *]) rfl ⟨rfl, Below.drew ((((B.setCell (by simp; omega) _).setCell (by simp; omega) _).setCell (by simp; omega) _).setCell (by simp; omega) _)⟩
end Go.Proofs.Ytbepapbfohfdkaa

/- The law's own question that is asked first: it is answered yes. -/
namespace Go.Proofs.Ytbepapbfohfdkaa
open Go.RowKit Go.Lib Go.Sort

theorem K1 (w : World) : Calls Try.prog 20 #[.int .i64 3, .agg #[.int .i64 1, .int .i64 2], .agg #[.int .i64 10, .int .i64 20]] w fun e w' => e = .returned (.tuple #[.agg #[.int .i64 11, .int .i64 22], .bool true]) ∧ Below w.heap.size w w' := by
  have := do_any 3 (1, 2) (10, 20) (by unfold Sp.Ok Nm; simp) (by unfold Sp.Ok Nm; simp) w
  rwa [show doR 3 (1, 2) (10, 20) = (11, 22) by kernel_rfl, show doB 3 (1, 2) (10, 20) = true by kernel_rfl] at this
theorem K2 (w : World) : Calls Try.prog 9 #[.agg #[.int .i64 1, .int .i64 5], .agg #[.int .i64 4, .int .i64 9]] w fun e w' => e = .returned (.tuple #[.agg #[.int .i64 4, .int .i64 5], .bool true]) ∧ Below w.heap.size w w' := by
  have := meet_any (1, 5) (4, 9) w
  rwa [show meetS (1, 5) (4, 9) = (4, 5) by kernel_rfl, show meetB (1, 5) (4, 9) = true by kernel_rfl] at this
theorem K3 (w : World) : Calls Try.prog 22 #[.agg #[.int .i64 0, .int .i64 9], .agg #[.int .i64 0, .int .i64 5]] w fun e w' => e = .returned (.tuple #[.agg #[.int .i64 0, .int .i64 4], .agg #[.int .i64 1, .int .i64 5], .bool true]) ∧ Below w.heap.size w w' := by
  have := below_any (0, 9) (0, 5) (by unfold Sp.Ok Nm; simp) (by unfold Sp.Ok Nm; simp) w
  rwa [show belA (0, 9) (0, 5) = (0, 4) by kernel_rfl, show belC (0, 9) (0, 5) = (1, 5) by kernel_rfl, show belB (0, 9) (0, 5) = true by kernel_rfl] at this
theorem K4 (w : World) (a : Option Addr) (h : Ths w a [4, 8]) : Calls Try.prog 24 #[.agg #[.int .i64 0, .int .i64 3], .agg #[.int .i64 0, .int .i64 5], .slice a 2 2] w fun e w' => e = .returned (.agg #[.int .i64 0, .int .i64 8]) ∧ Below w.heap.size w w' := by
  have := widen_any (0, 3) (0, 5) [4, 8] a 2 (by simp) w h
  rwa [show widS (0, 3) (0, 5) [4, 8] = (0, 8) by kernel_rfl] at this
theorem K5 (w : World) : Calls Try.prog 18 #[.agg #[.int .i64 3, .int .i64 99], .agg #[.int .i64 0, .int .i64 10]] w fun e w' => e = .returned (.int .u64 7) ∧ Below w.heap.size w w' := by
  have := length_any (3, 99) (0, 10) (by unfold Sp.Ok Nm; simp) (by unfold Sp.Ok Nm; simp) w
  rwa [show lenN (3, 99) (0, 10) = 7 by kernel_rfl] at this
theorem K6 (w : World) : Calls Try.prog 14 #[.agg #[.int .i64 (-9223372036854775808), .int .i64 9223372036854775807], .int .i64 (-9223372036854775808)] w fun e w' => e = .returned (.bool true) ∧ Below w.heap.size w w' := hasT (by omega) w
theorem K7 (w : World) : Calls Try.prog 16 #[.agg #[.int .i64 1, .int .i64 2], .agg #[.int .i64 9, .int .i64 9]] w fun e w' => e = .returned (.agg #[.int .i64 1, .int .i64 9]) ∧ Below w.heap.size w w' := by
  have := join_any (1, 2) (9, 9) w
  rwa [show joinS (1, 2) (9, 9) = (1, 9) by kernel_rfl] at this
theorem ths_block {W : World} {g : Nat} {x y : Int} {t : TypeId} (h : W.heap[g]? = some (.cells #[.int .i64 x, .int .i64 y] t)) : Ths W (some ⟨g, 0, none⟩) [x, y] := by
  intro i cs hi
  refine ⟨g, 0, rfl, fun j v hj => ?_⟩
  match i, hi with
  | 0, hi =>
    simp at hi; subst hi
    match j, hj with
    | 0, hj => simp at hj; subst hj; rw [Lib.cell_of_heap h]; rfl
  | 1, hi =>
    simp at hi; subst hi
    match j, hj with
    | 0, hj => simp at hj; subst hj; rw [Lib.cell_of_heap h]; rfl

set_option maxRecDepth 100000 in
set_option maxHeartbeats 4000000 in
theorem fixed_any (w : World) : Calls Try.prog 11 #[] w fun e w' => e = .returned (.bool true) ∧ Below w.heap.size w w' := by
  have H1 := Hid.mk' K1; have H2 := Hid.mk' K2; have H3 := Hid.mk' K3; have H4 := Hid.mk' K4; have H5 := Hid.mk' K5; have H6 := Hid.mk' K6; have H7 := Hid.mk' K7; have H8 := Hid.mk' allV
  have hg := eqGuard_s
  have q1 := fun w => equalIn_T (rfl : ((11 : Int), (22 : Int)) = (11, 22)) w
  have q2 := fun w => equalIn_T (rfl : ((4 : Int), (5 : Int)) = (4, 5)) w
  have q3 := fun w => equalIn_T (rfl : ((0 : Int), (4 : Int)) = (0, 4)) w
  have q4 := fun w => equalIn_T (rfl : ((1 : Int), (5 : Int)) = (1, 5)) w
  have q5 := fun w => equalIn_T (rfl : ((0 : Int), (8 : Int)) = (0, 8)) w
  have q6 := fun w => equalIn_T (rfl : ((1 : Int), (9 : Int)) = (1, 9)) w
  go_enter Try.func11, Try.ntmps11
  go_upto_region 2 with (go_at_call 20; refine (H1.out _).mono ?_; rintro e w1 ⟨rfl, hb1⟩)
  have A1 := At.new w1 (11, 22)
  have B1 := Below.one hb1 (.cells #[.int .i64 11, .int .i64 22] 23)
  simp only at A1
  clear hb1 H1
  generalize w1.alloc (.cells #[.int .i64 11, .int .i64 22] 23) = W1 at *
  generalize w1.heap.size = g1 at *
  go_upto_region 3 with (go_at_call 9; refine (H2.out _).mono ?_; rintro e w2 ⟨rfl, hb2⟩)
  replace A1 := A1.on (.cells #[.int .i64 4, .int .i64 5] 23) hb2
  have A2 := At.new w2 (4, 5)
  have B2 := Below.one (Below.on B1 hb2) (.cells #[.int .i64 4, .int .i64 5] 23)
  simp only at A2
  clear hb2 H2 B1
  generalize w2.alloc (.cells #[.int .i64 4, .int .i64 5] 23) = W2 at *
  generalize w2.heap.size = g2 at *
  go_upto_region 4 with (go_at_call 22; refine (H3.out _).mono ?_; rintro e w3 ⟨rfl, hb3⟩)
  replace A1 := (A1.on (.cells #[.int .i64 0, .int .i64 4] 23) hb3).more (.cells #[.int .i64 1, .int .i64 5] 23)
  replace A2 := (A2.on (.cells #[.int .i64 0, .int .i64 4] 23) hb3).more (.cells #[.int .i64 1, .int .i64 5] 23)
  have A3 := (At.new w3 (0, 4)).more (.cells #[.int .i64 1, .int .i64 5] 23)
  have A4 := At.new1 w3 (1, 5) (.cells #[.int .i64 0, .int .i64 4] 23)
  have B3 := Below.one (Below.one (Below.on B2 hb3) (.cells #[.int .i64 0, .int .i64 4] 23)) (.cells #[.int .i64 1, .int .i64 5] 23)
  simp only at A3 A4
  clear hb3 H3 B2
  generalize (w3.alloc (.cells #[.int .i64 0, .int .i64 4] 23)).alloc (.cells #[.int .i64 1, .int .i64 5] 23) = W3 at *
  generalize w3.heap.size = g3 at *
  go_upto_region 5 with (go_at_call 24; refine (H4.out _ _ (ths_block (heap_alloc_new _ _))).mono ?_; rintro e w4 ⟨rfl, hb4⟩)
  replace A1 := ((A1.more _).on (.cells #[.int .i64 0, .int .i64 8] 23) hb4)
  replace A2 := ((A2.more _).on (.cells #[.int .i64 0, .int .i64 8] 23) hb4)
  replace A3 := ((A3.more _).on (.cells #[.int .i64 0, .int .i64 8] 23) hb4)
  replace A4 := ((A4.more _).on (.cells #[.int .i64 0, .int .i64 8] 23) hb4)
  have A5 := At.new w4 (0, 8)
  have B4 := Below.one (Below.on (Below.one B3 _) hb4) (.cells #[.int .i64 0, .int .i64 8] 23)
  simp only at A5
  clear hb4 H4 B3
  generalize w4.alloc (.cells #[.int .i64 0, .int .i64 8] 23) = W4 at *
  generalize w4.heap.size = g5 at *
  have x0 := A1.c0; have x1 := A1.c1; have x2 := A2.c0; have x3 := A2.c1; have x4 := A3.c0; have x5 := A3.c1; have x6 := A4.c0; have x7 := A4.c1; have x8 := A5.c0; have x9 := A5.c1
  go_wp2_with (first | (go_at_call 18; refine (H5.out _).mono ?_; rintro e w5 ⟨rfl, hb5⟩) | (go_at_call 12; refine (H8.out _).mono ?_; rintro e w6 ⟨rfl, hb6⟩) | (go_at_call 14; refine (H6.out _).mono ?_; rintro e w7 ⟨rfl, hb7⟩) | (go_at_call 16; refine (H7.out _).mono ?_; rintro e w8 ⟨rfl, hb8⟩))
  go_ret
  exact ⟨rfl, Below.on (Below.on (Below.on (Below.on B4 hb5) hb6) hb7) hb8⟩
end Go.Proofs.Ytbepapbfohfdkaa

/- The document's own answers: the small functions. -/
namespace Go.Proofs.Ytbepapbfohfdkaa
open Go.RowKit Go.Lib Go.Sort

theorem none_any (a : Sp) (w : World) : Calls Try.prog 30 #[sv a] w fun e w' => e = .returned (.bool (emB a)) ∧ Below w.heap.size w w' := by
  have hb := fun (o1 : Obj) => (Below.one (Below.refl _ w) o1 : Below w.heap.size w _)
  obtain ⟨l, h⟩ := a
  have he : emB (l, h) = decide (l > h) := rfl
  rw [he]
  go_enter Try.func30, Try.ntmps30
  go_wp2
  go_ret
  exact ⟨rfl, hb _⟩
theorem noF {l h : Int} (H : l ≤ h) (w : World) : Calls Try.prog 30 #[.agg #[.int .i64 l, .int .i64 h]] w fun e w' => e = .returned (.bool false) ∧ Below w.heap.size w w' := by
  have := none_any (l, h) w
  rwa [show emB (l, h) = false from decide_eq_false (by simp only; omega)] at this
theorem noT {l h : Int} (H : h < l) (w : World) : Calls Try.prog 30 #[.agg #[.int .i64 l, .int .i64 h]] w fun e w' => e = .returned (.bool true) ∧ Below w.heap.size w w' := by
  have := none_any (l, h) w
  rwa [show emB (l, h) = true from decide_eq_true H] at this
theorem rall_any (w : World) : Calls Try.prog 13 #[] w fun e w' => e = .returned (sv allS) ∧ Below w.heap.size w w' := by
  have hb := fun (o1 : Obj) => (Below.one (Below.refl _ w) o1 : Below w.heap.size w _)
  go_enter Try.func13, Try.ntmps13
  go_wp2
  exact bodyPost_ret (v := sv allS) (by simp [results, Try.results13, go_sem, allS]) rfl ⟨rfl, hb _⟩
theorem rallV (w : World) : Calls Try.prog 13 #[] w fun e w' => e = .returned (.agg #[.int .i64 (-9223372036854775808), .int .i64 9223372036854775807]) ∧ Below w.heap.size w w' := rall_any w
theorem rhas_any (a : Sp) (n : Int) (w : World) : Calls Try.prog 15 #[sv a, .int .i64 n] w fun e w' => e = .returned (.bool (hasB a n)) ∧ Below w.heap.size w w' := by
  have hb := fun (o1 : Obj) => (Below.one (Below.refl _ w) o1 : Below w.heap.size w _)
  obtain ⟨l, h⟩ := a
  by_cases h1 : l ≤ n
  · have he : hasB (l, h) n = decide (n ≤ h) := by unfold hasB; simp [h1]
    rw [he]
    go_enter Try.func15, Try.ntmps15
    go_wp2
    go_ret
    exact ⟨rfl, hb _⟩
  · have he : hasB (l, h) n = false := by unfold hasB; simp [h1]
    rw [he]
    go_enter Try.func15, Try.ntmps15
    go_wp2
    go_ret
    exact ⟨rfl, hb _⟩
theorem lesser_any (x y : Int) (w : World) : Calls Try.prog 29 #[.int .i64 x, .int .i64 y] w fun e w' => e = .returned (.int .i64 (min x y)) ∧ w' = w := by
  by_cases h : x < y
  · rw [show min x y = x by omega]
    go_enter Try.func29, Try.ntmps29
    go_wp2
    go_ret
    exact ⟨rfl, rfl⟩
  · rw [show min x y = y by omega]
    go_enter Try.func29, Try.ntmps29
    go_wp2
    go_ret
    exact ⟨rfl, rfl⟩
theorem greater_any (x y : Int) (w : World) : Calls Try.prog 28 #[.int .i64 x, .int .i64 y] w fun e w' => e = .returned (.int .i64 (max x y)) ∧ w' = w := by
  by_cases h : y < x
  · rw [show max x y = x by omega]
    go_enter Try.func28, Try.ntmps28
    go_wp2
    go_ret
    exact ⟨rfl, rfl⟩
  · rw [show max x y = y by omega]
    go_enter Try.func28, Try.ntmps28
    go_wp2
    go_ret
    exact ⟨rfl, rfl⟩
theorem lesB (x y : Int) (w : World) : Calls Try.prog 29 #[.int .i64 x, .int .i64 y] w fun e w' => e = .returned (.int .i64 (min x y)) ∧ Below w.heap.size w w' := (lesser_any x y w).mono fun _ _ ⟨h1, h2⟩ => ⟨h1, h2 ▸ Below.refl _ _⟩
theorem greB (x y : Int) (w : World) : Calls Try.prog 28 #[.int .i64 x, .int .i64 y] w fun e w' => e = .returned (.int .i64 (max x y)) ∧ Below w.heap.size w w' := (greater_any x y w).mono fun _ _ ⟨h1, h2⟩ => ⟨h1, h2 ▸ Below.refl _ _⟩
theorem rtruth_any (y n : Bool) (w : World) : Calls Try.prog 39 #[.bool y, .bool n] w fun e w' => e = .returned (sv (tru y n)) ∧ Below w.heap.size w w' := by
  have hb := fun (o1 : Obj) => (Below.one (Below.refl _ w) o1 : Below w.heap.size w _)
  cases y
  · cases n
    · go_enter Try.func39, Try.ntmps39
      go_wp2
      exact bodyPost_ret (v := sv (0, 1)) (by simp [results, Try.results39, go_sem]) rfl ⟨rfl, hb _⟩
    · go_enter Try.func39, Try.ntmps39
      go_wp2
      exact bodyPost_ret (v := sv (0, 0)) (by simp [results, Try.results39, go_sem]) rfl ⟨rfl, hb _⟩
  · go_enter Try.func39, Try.ntmps39
    go_wp2
    exact bodyPost_ret (v := sv (1, 1)) (by simp [results, Try.results39, go_sem]) rfl ⟨rfl, hb _⟩
theorem rlength_any (a b : Sp) (ha : a.Ok) (hb' : b.Ok) (w : World) : Calls Try.prog 19 #[sv a, sv b] w fun e w' => e = .returned (.int .u64 (lenN a b)) ∧ Below w.heap.size w w' := by
  have hb := fun (o1 o2 : Obj) => (Below.one (Below.one (Below.refl _ w) o1) o2 : Below w.heap.size w _)
  obtain ⟨l, h⟩ := a
  obtain ⟨l2, h2⟩ := b
  by_cases hh : h2 ≤ l
  · have HE : Hid (lenN (l, h) (l2, h2) = 0) := by show _ = _; unfold lenN; rw [if_pos hh]
    go_enter Try.func19, Try.ntmps19
    go_wp2
    go_ret
    exact ⟨by rw [HE.out]; rfl, hb _ _⟩
  · have HE : Hid (lenN (l, h) (l2, h2) = IntKind.u64.wrap (IntKind.u64.wrap h2 - IntKind.u64.wrap l)) := by
      show _ = _
      rw [IntKind.wrap_u64, IntKind.wrap_u64, IntKind.wrap_u64]
      unfold lenN Sp.Ok Nm at *
      rw [if_neg hh]
      omega
    go_enter Try.func19, Try.ntmps19
    go_wp2
    go_ret
    exact ⟨by rw [HE.out]; rfl, hb _ _⟩
theorem rop3 (x y : Int) (w : World) : Calls Try.prog 26 #[.int .i64 3, .int .i64 x, .int .i64 y] w fun e w' => e = .returned (.tuple #[.int .i64 (wrap64 (x + y)), .bool true]) ∧ w' = w := by
  go_enter Try.func26, Try.ntmps26
  go_wp2
  go_ret2
  exact ⟨rfl, rfl⟩
theorem rop4 (x y : Int) (w : World) : Calls Try.prog 26 #[.int .i64 4, .int .i64 x, .int .i64 y] w fun e w' => e = .returned (.tuple #[.int .i64 (wrap64 (x - y)), .bool true]) ∧ w' = w := by
  go_enter Try.func26, Try.ntmps26
  go_wp2
  go_ret2
  exact ⟨rfl, rfl⟩
theorem rop5 (x y : Int) (w : World) : Calls Try.prog 26 #[.int .i64 5, .int .i64 x, .int .i64 y] w fun e w' => e = .returned (.tuple #[.int .i64 (wrap64 (x * y)), .bool true]) ∧ w' = w := by
  go_enter Try.func26, Try.ntmps26
  go_wp2
  go_ret2
  exact ⟨rfl, rfl⟩
theorem rop6 (x y : Int) (h : y ≠ 0) (w : World) : Calls Try.prog 26 #[.int .i64 6, .int .i64 x, .int .i64 y] w fun e w' => e = .returned (.tuple #[.int .i64 (wrap64 (x.tdiv y)), .bool true]) ∧ w' = w := by
  have h1 := beq_no h
  go_enter Try.func26, Try.ntmps26
  go_wp2
  go_ret2
  exact ⟨rfl, rfl⟩
theorem rop7 (x y : Int) (h : y ≠ 0) (w : World) : Calls Try.prog 26 #[.int .i64 7, .int .i64 x, .int .i64 y] w fun e w' => e = .returned (.tuple #[.int .i64 (x.tmod y), .bool true]) ∧ w' = w := by
  have h1 := beq_no h
  go_enter Try.func26, Try.ntmps26
  go_wp2
  go_ret2
  exact ⟨rfl, rfl⟩
theorem rop8T (x y : Int) (h : x < y) (w : World) : Calls Try.prog 26 #[.int .i64 8, .int .i64 x, .int .i64 y] w fun e w' => e = .returned (.tuple #[.int .i64 1, .bool true]) ∧ w' = w := by
  go_enter Try.func26, Try.ntmps26
  go_wp2
  go_ret2
  exact ⟨rfl, rfl⟩
theorem rop8F (x y : Int) (h : ¬ x < y) (w : World) : Calls Try.prog 26 #[.int .i64 8, .int .i64 x, .int .i64 y] w fun e w' => e = .returned (.tuple #[.int .i64 0, .bool true]) ∧ w' = w := by
  go_enter Try.func26, Try.ntmps26
  go_wp2
  go_ret2
  exact ⟨rfl, rfl⟩
theorem rop9T (x y : Int) (h : x = y) (w : World) : Calls Try.prog 26 #[.int .i64 9, .int .i64 x, .int .i64 y] w fun e w' => e = .returned (.tuple #[.int .i64 1, .bool true]) ∧ w' = w := by
  have h1 : (x == y) = true := by simp [h]
  clear h
  go_enter Try.func26, Try.ntmps26
  go_wp2
  go_ret2
  exact ⟨rfl, rfl⟩
theorem rop9F (x y : Int) (h : x ≠ y) (w : World) : Calls Try.prog 26 #[.int .i64 9, .int .i64 x, .int .i64 y] w fun e w' => e = .returned (.tuple #[.int .i64 0, .bool true]) ∧ w' = w := by
  have h1 := beq_no h
  clear h
  go_enter Try.func26, Try.ntmps26
  go_wp2
  go_ret2
  exact ⟨rfl, rfl⟩
theorem rop10T (x y : Int) (h : x = 0) (w : World) : Calls Try.prog 26 #[.int .i64 10, .int .i64 x, .int .i64 y] w fun e w' => e = .returned (.tuple #[.int .i64 1, .bool true]) ∧ w' = w := by
  have h1 : (x == 0) = true := by simp [h]
  clear h
  go_enter Try.func26, Try.ntmps26
  go_wp2
  go_ret2
  exact ⟨rfl, rfl⟩
theorem rop10F (x y : Int) (h : x ≠ 0) (w : World) : Calls Try.prog 26 #[.int .i64 10, .int .i64 x, .int .i64 y] w fun e w' => e = .returned (.tuple #[.int .i64 0, .bool true]) ∧ w' = w := by
  have h1 := beq_no h
  clear h
  go_enter Try.func26, Try.ntmps26
  go_wp2
  go_ret2
  exact ⟨rfl, rfl⟩
theorem rop6Z (x : Int) (w : World) : Calls Try.prog 26 #[.int .i64 6, .int .i64 x, .int .i64 0] w fun e w' => e = .returned (.tuple #[.int .i64 0, .bool false]) ∧ w' = w := by
  go_enter Try.func26, Try.ntmps26
  go_wp2
  go_ret2
  exact ⟨rfl, rfl⟩
theorem rop7Z (x : Int) (w : World) : Calls Try.prog 26 #[.int .i64 7, .int .i64 x, .int .i64 0] w fun e w' => e = .returned (.tuple #[.int .i64 0, .bool false]) ∧ w' = w := by
  go_enter Try.func26, Try.ntmps26
  go_wp2
  go_ret2
  exact ⟨rfl, rfl⟩
theorem rop_no (op x y : Int) (o3 : op ≠ 3) (o4 : op ≠ 4) (o5 : op ≠ 5) (o6 : op ≠ 6) (o7 : op ≠ 7) (o8 : op ≠ 8) (o9 : op ≠ 9) (o10 : op ≠ 10) (w : World) : Calls Try.prog 26 #[.int .i64 op, .int .i64 x, .int .i64 y] w fun e w' => e = .returned (.tuple #[.int .i64 0, .bool false]) ∧ w' = w := by
  have p3 := beq_no o3
  have p4 := beq_no o4
  have p5 := beq_no o5
  have p6 := beq_no o6
  have p7 := beq_no o7
  have p8 := beq_no o8
  have p9 := beq_no o9
  have p10 := beq_no o10
  clear o3 o4 o5 o6 o7 o8 o9 o10
  go_enter Try.func26, Try.ntmps26
  go_wp2
  go_ret2
  exact ⟨rfl, rfl⟩
end Go.Proofs.Ytbepapbfohfdkaa
