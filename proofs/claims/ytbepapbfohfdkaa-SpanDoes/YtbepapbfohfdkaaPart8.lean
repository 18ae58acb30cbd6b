/- The document's own Widen. -/
import Derived.Test.YtbepapbfohfdkaaPart6
import Derived.Test.YtbepapbfohfdkaaPart2
namespace Go.Proofs.Ytbepapbfohfdkaa
open Go.RowKit Go.Lib Go.Sort

theorem cell_below {W W' : World} {p : Addr} {v : Value} (h : W.cell? p = some v) (hb : Below W.heap.size W W') : W'.cell? p = some v := by rw [hb.cell (lt_of_cell h)]; exact h
theorem rwiden_e1 (al ah bl bh : Int) (ts : List Int) (a : Option Addr) (c : Nat) (h1 : ah < al) (w : World) : Calls Try.prog 25 #[sv (al, ah), sv (bl, bh), .slice a ts.length c] w fun e w' => e = .returned (sv (bl, bh)) ∧ Below w.heap.size w w' := by
  have HEa : Hid (∀ w, Calls Try.prog 30 #[.agg #[.int .i64 al, .int .i64 ah]] w fun e w' => e = .returned (.bool true) ∧ Below w.heap.size w w') := noT h1
  have hb := fun (o1 o2 o3 : Obj) => (Below.one (Below.one (Below.one (Below.refl _ w) o1) o2) o3 : Below w.heap.size w _)
  clear h1
  go_enter Try.func25, Try.ntmps25
  go_wp2_with (go_at_call_of 30 (Value.agg #[Value.int .i64 al, Value.int .i64 ah]); refine (HEa.out _).mono ?_; rintro e w1 ⟨rfl, hb1⟩; have A0 := At.stay (At.more (At.more (At.new w (al, ah)) _) _) hb1; have A1 := At.stay (At.more (At.new1 w (bl, bh) _) _) hb1; have A2 := At.stay (At.new2 w (0, 0) _ _) hb1; have x0 := A0.c0; have x1 := A0.c1; have y0 := A1.c0; have y1 := A1.c1; have z0 := A2.c0; have z1 := A2.c1; have z2 := A2.f0; have z3 := A2.f1)
  exact bodyPost_ret (v := sv (bl, bh)) (by simp [results, Try.results25, go_sem, *]) rfl ⟨rfl, Below.put (Below.on (hb _ _ _) hb1) (by omega) _ _⟩
theorem rwiden_e2 (al ah bl bh : Int) (ts : List Int) (a : Option Addr) (c : Nat) (h1 : al ≤ ah) (h2 : bh < bl) (w : World) : Calls Try.prog 25 #[sv (al, ah), sv (bl, bh), .slice a ts.length c] w fun e w' => e = .returned (sv (al, ah)) ∧ Below w.heap.size w w' := by
  have HEa : Hid (∀ w, Calls Try.prog 30 #[.agg #[.int .i64 al, .int .i64 ah]] w fun e w' => e = .returned (.bool false) ∧ Below w.heap.size w w') := noF h1
  have HEb : Hid (∀ w, Calls Try.prog 30 #[.agg #[.int .i64 bl, .int .i64 bh]] w fun e w' => e = .returned (.bool true) ∧ Below w.heap.size w w') := noT h2
  have hb := fun (o1 o2 o3 : Obj) => (Below.one (Below.one (Below.one (Below.refl _ w) o1) o2) o3 : Below w.heap.size w _)
  clear h1 h2
  go_enter Try.func25, Try.ntmps25
  go_wp2_with (first | (go_at_call_of 30 (Value.agg #[Value.int .i64 al, Value.int .i64 ah]); refine (HEa.out _).mono ?_; rintro e w1 ⟨rfl, hb1⟩; have A0 := At.stay (At.more (At.more (At.new w (al, ah)) _) _) hb1; have A1 := At.stay (At.more (At.new1 w (bl, bh) _) _) hb1; have A2 := At.stay (At.new2 w (0, 0) _ _) hb1; have x0 := A0.c0; have x1 := A0.c1; have y0 := A1.c0; have y1 := A1.c1; have z0 := A2.c0; have z1 := A2.c1; have z2 := A2.f0; have z3 := A2.f1) | (go_at_call_of 30 (Value.agg #[Value.int .i64 bl, Value.int .i64 bh]); refine (HEb.out _).mono ?_; rintro e w2 ⟨rfl, hb2⟩; have D0 := A0.stay hb2; have D1 := A1.stay hb2; have D2 := A2.stay hb2; have u0 := D0.c0; have u1 := D0.c1; have v0 := D1.c0; have v1 := D1.c1; have t0 := D2.c0; have t1 := D2.c1; have t2 := D2.f0; have t3 := D2.f1))
  exact bodyPost_ret (v := sv (al, ah)) (by simp [results, Try.results25, go_sem, *]) rfl ⟨rfl, Below.put (Below.on (Below.on (hb _ _ _) hb1) hb2) (by omega) _ _⟩
theorem wid_ll {al ah bl bh : Int} {ts : List Int} (h1 : al ≤ ah) (h2 : bl ≤ bh) (h3 : bl < al) (hh : ah < bh) : widS (al, ah) (bl, bh) ts = (floorN ts bl, roofN ts bh) := by
  have hj : joinS (al, ah) (bl, bh) = (bl, bh) := by unfold joinS; rw [if_neg (by simp only; omega), if_neg (by simp only; omega)]; exact Prod.ext (by simp only; omega) (by simp only; omega)
  unfold widS
  rw [if_neg (by simp only; omega), hj, if_neg (by simp only; omega), if_neg (by simp only; omega)]
theorem wid_ln {al ah bl bh : Int} {ts : List Int} (h1 : al ≤ ah) (h2 : bl ≤ bh) (h3 : bl < al) (hh : ¬ ah < bh) : widS (al, ah) (bl, bh) ts = (floorN ts bl, ah) := by
  have hj : joinS (al, ah) (bl, bh) = (bl, ah) := by unfold joinS; rw [if_neg (by simp only; omega), if_neg (by simp only; omega)]; exact Prod.ext (by simp only; omega) (by simp only; omega)
  unfold widS
  rw [if_neg (by simp only; omega), hj, if_neg (by simp only; omega), if_pos rfl]
theorem wid_hh {al ah bl bh : Int} {ts : List Int} (h1 : al ≤ ah) (h2 : bl ≤ bh) (h3 : al ≤ bl) (hh : ah < bh) : widS (al, ah) (bl, bh) ts = (al, roofN ts bh) := by
  have hj : joinS (al, ah) (bl, bh) = (al, bh) := by unfold joinS; rw [if_neg (by simp only; omega), if_neg (by simp only; omega)]; exact Prod.ext (by simp only; omega) (by simp only; omega)
  unfold widS
  rw [if_neg (by simp only; omega), hj, if_pos rfl, if_neg (by simp only; omega)]
theorem wid_hn {al ah bl bh : Int} {ts : List Int} (h1 : al ≤ ah) (h2 : bl ≤ bh) (h3 : al ≤ bl) (hh : ¬ ah < bh) : widS (al, ah) (bl, bh) ts = (al, ah) := by
  have hj : joinS (al, ah) (bl, bh) = (al, ah) := by unfold joinS; rw [if_neg (by simp only; omega), if_neg (by simp only; omega)]; exact Prod.ext (by simp only; omega) (by simp only; omega)
  unfold widS
  rw [if_neg (by simp only; omega), hj, if_pos rfl, if_pos rfl]
set_option maxHeartbeats 2000000 in
theorem rwiden_lo (al ah bl bh : Int) (ts : List Int) (a : Option Addr) (c : Nat) (h1 : al ≤ ah) (h2 : bl ≤ bh) (h3 : bl < al) (hl : ts.length < 4611686018427387904) (w : World) (ht : Ths w a ts) : Calls Try.prog 25 #[sv (al, ah), sv (bl, bh), .slice a ts.length c] w fun e w' => e = .returned (sv (widS (al, ah) (bl, bh) ts)) ∧ Below w.heap.size w w' := by
  have HEa : Hid (∀ w, Calls Try.prog 30 #[.agg #[.int .i64 al, .int .i64 ah]] w fun e w' => e = .returned (.bool false) ∧ Below w.heap.size w w') := noF h1
  have HEb : Hid (∀ w, Calls Try.prog 30 #[.agg #[.int .i64 bl, .int .i64 bh]] w fun e w' => e = .returned (.bool false) ∧ Below w.heap.size w w') := noF h2
  have hb := fun (o1 o2 o3 : Obj) => (Below.one (Below.one (Below.one (Below.refl _ w) o1) o2) o3 : Below w.heap.size w _)
  have HF : Hid (flo bl (ts.take ts.length) (-9223372036854775808) = floorN ts bl) := by show _ = _; rw [List.take_length]; rfl
  have HG : Hid (roo bh (ts.take ts.length) 9223372036854775807 = roofN ts bh) := by show _ = _; rw [List.take_length]; rfl
  have WY : Hid (ah < bh → widS (al, ah) (bl, bh) ts = (floorN ts bl, roofN ts bh)) := fun hh => wid_ll h1 h2 h3 hh
  have WN : Hid (¬ ah < bh → widS (al, ah) (bl, bh) ts = (floorN ts bl, ah)) := fun hh => wid_ln h1 h2 h3 hh
  generalize widS (al, ah) (bl, bh) ts = R at *
  generalize floorN ts bl = fL at *
  generalize roofN ts bh = fH at *
  generalize hL : ts.length = L at *
  clear h1 h2
  go_enter Try.func25, Try.ntmps25
  go_upto_region 6 with (first | (go_at_call_of 30 (Value.agg #[Value.int .i64 al, Value.int .i64 ah]); refine (HEa.out _).mono ?_; rintro e w1 ⟨rfl, hb1⟩; have A0 := At.stay (At.more (At.more (At.new w (al, ah)) _) _) hb1; have A1 := At.stay (At.more (At.new1 w (bl, bh) _) _) hb1; have A2 := At.stay (At.new2 w (0, 0) _ _) hb1; have x0 := A0.c0; have x1 := A0.c1; have y0 := A1.c0; have y1 := A1.c1; have z0 := A2.c0; have z1 := A2.c1; have z2 := A2.f0; have z3 := A2.f1) | (go_at_call_of 30 (Value.agg #[Value.int .i64 bl, Value.int .i64 bh]); refine (HEb.out _).mono ?_; rintro e w2 ⟨rfl, hb2⟩; have D0 := A0.stay hb2; have D1 := A1.stay hb2; have D2 := A2.stay hb2; have u0 := D0.c0; have u1 := D0.c1; have v0 := D1.c0; have v1 := D1.c1; have t0 := D2.c0; have t1 := D2.c1; have t2 := D2.f0; have t3 := D2.f1))
  have B := Below.one (Below.on (Below.on (hb _ _ _) hb1) hb2) (.cells #[.int .i64 al, .int .i64 ah] 23)
  replace A0 := D0.more (.cells #[.int .i64 al, .int .i64 ah] 23)
  replace A1 := D1.more (.cells #[.int .i64 al, .int .i64 ah] 23)
  replace A2 := D2.more (.cells #[.int .i64 al, .int .i64 ah] 23)
  have A3 := At.new w2 (al, ah)
  have hsz : w.heap.size + 2 < w2.heap.size := by have := hb1.size; have := hb2.size; simp only [World.size_alloc] at *; omega
  simp only at A3
  clear hb hb1 hb2 HEa HEb x0 x1 y0 y1 z0 z1 z2 z3 u0 u1 v0 v1 t0 t1 t2 t3 D0 D1 D2
  generalize w2.alloc (.cells #[.int .i64 al, .int .i64 ah] 23) = W at *
  generalize w2.heap.size = gO at *
  have x0 := A0.c0; have x1 := A0.c1; have u0 := A1.c0; have u1 := A1.c1; have z0 := A3.c0; have z1 := A3.c1; have z2 := A3.f0
  go_wp2_with fail
  replace A0 := A0.ne1 (k := gO) (by omega) 0 (.int .i64 (-9223372036854775808))
  replace A1 := A1.ne1 (k := gO) (by omega) 0 (.int .i64 (-9223372036854775808))
  replace A2 := A2.ne1 (k := gO) (by omega) 0 (.int .i64 (-9223372036854775808))
  replace A3 := A3.put0 (-9223372036854775808)
  replace B := B.setCell (show w.heap.size ≤ (⟨gO, 0, none⟩ : Addr).block by simp only; omega) (.int .i64 (-9223372036854775808))
  simp only at A3
  clear x0 x1 u0 u1 z0 z1 z2
  go_loopw [8] (fun t8 wr => ∃ k : Nat, k ≤ L ∧ t8 = .int .i64 k ∧ At wr w.heap.size (al, ah) ∧ At wr (w.heap.size + 1) (bl, bh) ∧ At wr (w.heap.size + 1 + 1) (0, 0) ∧ At wr gO (flo bl (ts.take k) (-9223372036854775808), ah) ∧ Below w.heap.size w wr) (fun t8 _ => L - (intOf t8).toNat)
  case atStart => exact ⟨0, by omega, rfl, A0, A1, A2, A3, B⟩
  case round =>
    clear A0 A1 A2 A3 B
    obtain ⟨k, hk, rfl, A0, A1, A2, A3, B⟩ := hrel
    by_cases hlt : k < L
    · have hli : (k : Int) < L := by omega
      obtain ⟨t, hg⟩ : ∃ t, ts[k]? = some t := ⟨_, List.getElem?_eq_getElem (by omega)⟩
      obtain ⟨tb, tof, rfl, hc⟩ := (ht.stay B).cell hg
      have HS : Hid (flo bl (ts.take (k + 1)) (-9223372036854775808) = if t ≤ bl then max (flo bl (ts.take k) (-9223372036854775808)) t else flo bl (ts.take k) (-9223372036854775808)) := by
        show _ = _
        unfold flo
        rw [List.take_add_one, hg]
        simp only [Option.toList_some, List.foldl_append, List.foldl_cons, List.foldl_nil]
      generalize flo bl (ts.take k) (-9223372036854775808) = f at *
      have hcl := lt_of_cell hc
      simp only at hcl
      go_upto_region 11 with fail
      have f0 := fun d os => cell_regrown hc d os
      have f1 := A1.r0; have f2 := A3.r0
      simp only at f1 f2
      by_cases q1 : t ≤ bl
      · by_cases q2 : f < t
        · skip
          have d1 : decide (t ≤ bl) = true := decide_eq_true q1
          have d2 : decide (f < t) = true := decide_eq_true q2
          refine wp_region_quiet_below (by kernel_rfl) (by kernel_rfl) ?_
          repeat (go_big_quiet_step (fail))
          refine wpQuiet_nil ?_
          intro _ hw'
          obtain ⟨⟨dq, osq⟩, hw''⟩ := hw'
          subst hw''
          have Bq := below_regrown wr dq osq
          replace A0 := A0.stay Bq
          replace A1 := A1.stay Bq
          replace A2 := A2.stay Bq
          replace A3 := A3.stay Bq
          replace B := Below.on B Bq
          replace hc := cell_below hc Bq
          clear Bq f0 f1 f2
          simp only
          generalize grow (redrawn wr dq) osq = Wq at *
          have e2 := A3.f0; have e3 := A3.c0
          go_wp2_with fail
          go_roundw
          case rel =>
            refine ⟨k + 1, by omega, by go_num, A0.ne1 (by omega) _ _, A1.ne1 (by omega) _ _, A2.ne1 (by omega) _ _, ?_, B.setCell (by simp only; omega) _⟩
            rw [HS.out, if_pos q1, show max f t = t by omega]
            exact A3.put0 t
          case measure => simp [intOf]; omega
        · skip
          have d1 : decide (t ≤ bl) = true := decide_eq_true q1
          have d2 : decide (f < t) = false := decide_eq_false q2
          refine wp_region_quiet_below (by kernel_rfl) (by kernel_rfl) ?_
          repeat (go_big_quiet_step (fail))
          refine wpQuiet_nil ?_
          intro _ hw'
          obtain ⟨⟨dq, osq⟩, hw''⟩ := hw'
          subst hw''
          have Bq := below_regrown wr dq osq
          replace A0 := A0.stay Bq
          replace A1 := A1.stay Bq
          replace A2 := A2.stay Bq
          replace A3 := A3.stay Bq
          replace B := Below.on B Bq
          replace hc := cell_below hc Bq
          clear Bq f0 f1 f2
          simp only
          generalize grow (redrawn wr dq) osq = Wq at *
          go_wp2_with fail
          go_roundw
          case rel =>
            refine ⟨k + 1, by omega, by go_num, A0, A1, A2, ?_, B⟩
            rw [HS.out, if_pos q1, show max f t = f by omega]
            exact A3
          case measure => simp [intOf]; omega
      · skip
        have d1 : decide (t ≤ bl) = false := decide_eq_false q1
        refine wp_region_quiet_below (by kernel_rfl) (by kernel_rfl) ?_
        repeat (go_big_quiet_step (fail))
        refine wpQuiet_nil ?_
        intro _ hw'
        obtain ⟨⟨dq, osq⟩, hw''⟩ := hw'
        subst hw''
        have Bq := below_regrown wr dq osq
        replace A0 := A0.stay Bq
        replace A1 := A1.stay Bq
        replace A2 := A2.stay Bq
        replace A3 := A3.stay Bq
        replace B := Below.on B Bq
        replace hc := cell_below hc Bq
        clear Bq f0 f1 f2
        simp only
        generalize grow (redrawn wr dq) osq = Wq at *
        go_wp2_with fail
        go_roundw
        case rel =>
          refine ⟨k + 1, by omega, by go_num, A0, A1, A2, ?_, B⟩
          rw [HS.out, if_neg q1]
          exact A3
        case measure => simp [intOf]; omega
    · have hkL : L = k := by omega
      subst hkL
      have hli : ¬ (L : Int) < L := by omega
      rw [HF.out] at A3
      clear hlt hk
      by_cases hh : ah < bh
      · skip
        have HW : Hid (R = (fL, fH)) := WY.out hh
        have x0 := A0.c0; have x1 := A0.c1; have u0 := A1.c0; have u1 := A1.c1; have z0 := A3.c0; have z1 := A3.c1; have z2 := A3.f1
        go_wp2_with fail
        replace A0 := A0.ne1 (k := gO) (by omega) 1 (.int .i64 9223372036854775807)
        replace A1 := A1.ne1 (k := gO) (by omega) 1 (.int .i64 9223372036854775807)
        replace A2 := A2.ne1 (k := gO) (by omega) 1 (.int .i64 9223372036854775807)
        replace A3 := A3.put1 9223372036854775807
        replace B := B.setCell (show w.heap.size ≤ (⟨gO, 1, none⟩ : Addr).block by simp only; omega) (.int .i64 9223372036854775807)
        simp only at A3
        clear x0 x1 u0 u1 z0 z1 z2
        go_loopw [9] (fun t9 wr => ∃ k : Nat, k ≤ L ∧ t9 = .int .i64 k ∧ At wr w.heap.size (al, ah) ∧ At wr (w.heap.size + 1) (bl, bh) ∧ At wr (w.heap.size + 1 + 1) (0, 0) ∧ At wr gO (fL, roo bh (ts.take k) (9223372036854775807)) ∧ Below w.heap.size w wr) (fun t9 _ => L - (intOf t9).toNat)
        case atStart => exact ⟨0, by omega, rfl, A0, A1, A2, A3, B⟩
        case round =>
          clear A0 A1 A2 A3 B
          obtain ⟨k, hk, rfl, A0, A1, A2, A3, B⟩ := hrel
          by_cases hlt : k < L
          · have hli : (k : Int) < L := by omega
            obtain ⟨t, hg⟩ : ∃ t, ts[k]? = some t := ⟨_, List.getElem?_eq_getElem (by omega)⟩
            obtain ⟨tb, tof, rfl, hc⟩ := (ht.stay B).cell hg
            have HS : Hid (roo bh (ts.take (k + 1)) (9223372036854775807) = if bh ≤ t then min (roo bh (ts.take k) (9223372036854775807)) t else roo bh (ts.take k) (9223372036854775807)) := by
              show _ = _
              unfold roo
              rw [List.take_add_one, hg]
              simp only [Option.toList_some, List.foldl_append, List.foldl_cons, List.foldl_nil]
            generalize roo bh (ts.take k) (9223372036854775807) = f at *
            have hcl := lt_of_cell hc
            simp only at hcl
            go_upto_region 18 with fail
            have f0 := fun d os => cell_regrown hc d os
            have f1 := A1.r1; have f2 := A3.r1
            simp only at f1 f2
            by_cases q1 : bh ≤ t
            · by_cases q2 : t < f
              · skip
                have d1 : decide (bh ≤ t) = true := decide_eq_true q1
                have d2 : decide (t < f) = true := decide_eq_true q2
                refine wp_region_quiet_below (by kernel_rfl) (by kernel_rfl) ?_
                repeat (go_big_quiet_step (fail))
                refine wpQuiet_nil ?_
                intro _ hw'
                obtain ⟨⟨dq, osq⟩, hw''⟩ := hw'
                subst hw''
                have Bq := below_regrown wr dq osq
                replace A0 := A0.stay Bq
                replace A1 := A1.stay Bq
                replace A2 := A2.stay Bq
                replace A3 := A3.stay Bq
                replace B := Below.on B Bq
                replace hc := cell_below hc Bq
                clear Bq f0 f1 f2
                simp only
                generalize grow (redrawn wr dq) osq = Wq at *
                have e2 := A3.f1; have e3 := A3.c1
                go_wp2_with fail
                go_roundw
                case rel =>
                  refine ⟨k + 1, by omega, by go_num, A0.ne1 (by omega) _ _, A1.ne1 (by omega) _ _, A2.ne1 (by omega) _ _, ?_, B.setCell (by simp only; omega) _⟩
                  rw [HS.out, if_pos q1, show min f t = t by omega]
                  exact A3.put1 t
                case measure => simp [intOf]; omega
              · skip
                have d1 : decide (bh ≤ t) = true := decide_eq_true q1
                have d2 : decide (t < f) = false := decide_eq_false q2
                refine wp_region_quiet_below (by kernel_rfl) (by kernel_rfl) ?_
                repeat (go_big_quiet_step (fail))
                refine wpQuiet_nil ?_
                intro _ hw'
                obtain ⟨⟨dq, osq⟩, hw''⟩ := hw'
                subst hw''
                have Bq := below_regrown wr dq osq
                replace A0 := A0.stay Bq
                replace A1 := A1.stay Bq
                replace A2 := A2.stay Bq
                replace A3 := A3.stay Bq
                replace B := Below.on B Bq
                replace hc := cell_below hc Bq
                clear Bq f0 f1 f2
                simp only
                generalize grow (redrawn wr dq) osq = Wq at *
                go_wp2_with fail
                go_roundw
                case rel =>
                  refine ⟨k + 1, by omega, by go_num, A0, A1, A2, ?_, B⟩
                  rw [HS.out, if_pos q1, show min f t = f by omega]
                  exact A3
                case measure => simp [intOf]; omega
            · skip
              have d1 : decide (bh ≤ t) = false := decide_eq_false q1
              refine wp_region_quiet_below (by kernel_rfl) (by kernel_rfl) ?_
              repeat (go_big_quiet_step (fail))
              refine wpQuiet_nil ?_
              intro _ hw'
              obtain ⟨⟨dq, osq⟩, hw''⟩ := hw'
              subst hw''
              have Bq := below_regrown wr dq osq
              replace A0 := A0.stay Bq
              replace A1 := A1.stay Bq
              replace A2 := A2.stay Bq
              replace A3 := A3.stay Bq
              replace B := Below.on B Bq
              replace hc := cell_below hc Bq
              clear Bq f0 f1 f2
              simp only
              generalize grow (redrawn wr dq) osq = Wq at *
              go_wp2_with fail
              go_roundw
              case rel =>
                refine ⟨k + 1, by omega, by go_num, A0, A1, A2, ?_, B⟩
                rw [HS.out, if_neg q1]
                exact A3
              case measure => simp [intOf]; omega
          · have hkL : L = k := by omega
            subst hkL
            have hli : ¬ (L : Int) < L := by omega
            rw [HG.out] at A3
            clear hlt hk
            have z0 := A3.c0; have z1 := A3.c1; have y0 := A2.c0; have y1 := A2.c1; have y2 := A2.f0; have y3 := A2.f1
            go_wp2_with fail
            exact bodyPost_ret (v := sv (fL, fH)) (by simp [results, Try.results25, go_sem, *]) rfl ⟨by rw [HW.out], Below.put B (by omega) _ _⟩
      · skip
        have HW : Hid (R = (fL, ah)) := WN.out (by omega)
        have x0 := A0.c0; have x1 := A0.c1; have u0 := A1.c0; have u1 := A1.c1
        have z0 := A3.c0; have z1 := A3.c1; have y0 := A2.c0; have y1 := A2.c1; have y2 := A2.f0; have y3 := A2.f1
        go_wp2_with fail
        exact bodyPost_ret (v := sv (fL, ah)) (by simp [results, Try.results25, go_sem, *]) rfl ⟨by rw [HW.out], Below.put B (by omega) _ _⟩
set_option maxHeartbeats 2000000 in
theorem rwiden_hi (al ah bl bh : Int) (ts : List Int) (a : Option Addr) (c : Nat) (h1 : al ≤ ah) (h2 : bl ≤ bh) (h3 : al ≤ bl) (hl : ts.length < 4611686018427387904) (w : World) (ht : Ths w a ts) : Calls Try.prog 25 #[sv (al, ah), sv (bl, bh), .slice a ts.length c] w fun e w' => e = .returned (sv (widS (al, ah) (bl, bh) ts)) ∧ Below w.heap.size w w' := by
  have HEa : Hid (∀ w, Calls Try.prog 30 #[.agg #[.int .i64 al, .int .i64 ah]] w fun e w' => e = .returned (.bool false) ∧ Below w.heap.size w w') := noF h1
  have HEb : Hid (∀ w, Calls Try.prog 30 #[.agg #[.int .i64 bl, .int .i64 bh]] w fun e w' => e = .returned (.bool false) ∧ Below w.heap.size w w') := noF h2
  have hb := fun (o1 o2 o3 : Obj) => (Below.one (Below.one (Below.one (Below.refl _ w) o1) o2) o3 : Below w.heap.size w _)
  have HF : Hid (flo bl (ts.take ts.length) (-9223372036854775808) = floorN ts bl) := by show _ = _; rw [List.take_length]; rfl
  have HG : Hid (roo bh (ts.take ts.length) 9223372036854775807 = roofN ts bh) := by show _ = _; rw [List.take_length]; rfl
  have WY : Hid (ah < bh → widS (al, ah) (bl, bh) ts = (al, roofN ts bh)) := fun hh => wid_hh h1 h2 h3 hh
  have WN : Hid (¬ ah < bh → widS (al, ah) (bl, bh) ts = (al, ah)) := fun hh => wid_hn h1 h2 h3 hh
  generalize widS (al, ah) (bl, bh) ts = R at *
  generalize floorN ts bl = fL at *
  generalize roofN ts bh = fH at *
  generalize hL : ts.length = L at *
  clear h1 h2
  go_enter Try.func25, Try.ntmps25
  go_upto_region 6 with (first | (go_at_call_of 30 (Value.agg #[Value.int .i64 al, Value.int .i64 ah]); refine (HEa.out _).mono ?_; rintro e w1 ⟨rfl, hb1⟩; have A0 := At.stay (At.more (At.more (At.new w (al, ah)) _) _) hb1; have A1 := At.stay (At.more (At.new1 w (bl, bh) _) _) hb1; have A2 := At.stay (At.new2 w (0, 0) _ _) hb1; have x0 := A0.c0; have x1 := A0.c1; have y0 := A1.c0; have y1 := A1.c1; have z0 := A2.c0; have z1 := A2.c1; have z2 := A2.f0; have z3 := A2.f1) | (go_at_call_of 30 (Value.agg #[Value.int .i64 bl, Value.int .i64 bh]); refine (HEb.out _).mono ?_; rintro e w2 ⟨rfl, hb2⟩; have D0 := A0.stay hb2; have D1 := A1.stay hb2; have D2 := A2.stay hb2; have u0 := D0.c0; have u1 := D0.c1; have v0 := D1.c0; have v1 := D1.c1; have t0 := D2.c0; have t1 := D2.c1; have t2 := D2.f0; have t3 := D2.f1))
  have B := Below.one (Below.on (Below.on (hb _ _ _) hb1) hb2) (.cells #[.int .i64 al, .int .i64 ah] 23)
  replace A0 := D0.more (.cells #[.int .i64 al, .int .i64 ah] 23)
  replace A1 := D1.more (.cells #[.int .i64 al, .int .i64 ah] 23)
  replace A2 := D2.more (.cells #[.int .i64 al, .int .i64 ah] 23)
  have A3 := At.new w2 (al, ah)
  have hsz : w.heap.size + 2 < w2.heap.size := by have := hb1.size; have := hb2.size; simp only [World.size_alloc] at *; omega
  simp only at A3
  clear hb hb1 hb2 HEa HEb x0 x1 y0 y1 z0 z1 z2 z3 u0 u1 v0 v1 t0 t1 t2 t3 D0 D1 D2
  generalize w2.alloc (.cells #[.int .i64 al, .int .i64 ah] 23) = W at *
  generalize w2.heap.size = gO at *
  by_cases hh : ah < bh
  · skip
    have HW : Hid (R = (al, fH)) := WY.out hh
    have x0 := A0.c0; have x1 := A0.c1; have u0 := A1.c0; have u1 := A1.c1; have z0 := A3.c0; have z1 := A3.c1; have z2 := A3.f1
    go_wp2_with fail
    replace A0 := A0.ne1 (k := gO) (by omega) 1 (.int .i64 9223372036854775807)
    replace A1 := A1.ne1 (k := gO) (by omega) 1 (.int .i64 9223372036854775807)
    replace A2 := A2.ne1 (k := gO) (by omega) 1 (.int .i64 9223372036854775807)
    replace A3 := A3.put1 9223372036854775807
    replace B := B.setCell (show w.heap.size ≤ (⟨gO, 1, none⟩ : Addr).block by simp only; omega) (.int .i64 9223372036854775807)
    simp only at A3
    clear x0 x1 u0 u1 z0 z1 z2
    go_loopw [9] (fun t9 wr => ∃ k : Nat, k ≤ L ∧ t9 = .int .i64 k ∧ At wr w.heap.size (al, ah) ∧ At wr (w.heap.size + 1) (bl, bh) ∧ At wr (w.heap.size + 1 + 1) (0, 0) ∧ At wr gO (al, roo bh (ts.take k) (9223372036854775807)) ∧ Below w.heap.size w wr) (fun t9 _ => L - (intOf t9).toNat)
    case atStart => exact ⟨0, by omega, rfl, A0, A1, A2, A3, B⟩
    case round =>
      clear A0 A1 A2 A3 B
      obtain ⟨k, hk, rfl, A0, A1, A2, A3, B⟩ := hrel
      by_cases hlt : k < L
      · have hli : (k : Int) < L := by omega
        obtain ⟨t, hg⟩ : ∃ t, ts[k]? = some t := ⟨_, List.getElem?_eq_getElem (by omega)⟩
        obtain ⟨tb, tof, rfl, hc⟩ := (ht.stay B).cell hg
        have HS : Hid (roo bh (ts.take (k + 1)) (9223372036854775807) = if bh ≤ t then min (roo bh (ts.take k) (9223372036854775807)) t else roo bh (ts.take k) (9223372036854775807)) := by
          show _ = _
          unfold roo
          rw [List.take_add_one, hg]
          simp only [Option.toList_some, List.foldl_append, List.foldl_cons, List.foldl_nil]
        generalize roo bh (ts.take k) (9223372036854775807) = f at *
        have hcl := lt_of_cell hc
        simp only at hcl
        go_upto_region 18 with fail
        have f0 := fun d os => cell_regrown hc d os
        have f1 := A1.r1; have f2 := A3.r1
        simp only at f1 f2
        by_cases q1 : bh ≤ t
        · by_cases q2 : t < f
          · skip
            have d1 : decide (bh ≤ t) = true := decide_eq_true q1
            have d2 : decide (t < f) = true := decide_eq_true q2
            refine wp_region_quiet_below (by kernel_rfl) (by kernel_rfl) ?_
            repeat (go_big_quiet_step (fail))
            refine wpQuiet_nil ?_
            intro _ hw'
            obtain ⟨⟨dq, osq⟩, hw''⟩ := hw'
            subst hw''
            have Bq := below_regrown wr dq osq
            replace A0 := A0.stay Bq
            replace A1 := A1.stay Bq
            replace A2 := A2.stay Bq
            replace A3 := A3.stay Bq
            replace B := Below.on B Bq
            replace hc := cell_below hc Bq
            clear Bq f0 f1 f2
            simp only
            generalize grow (redrawn wr dq) osq = Wq at *
            have e2 := A3.f1; have e3 := A3.c1
            go_wp2_with fail
            go_roundw
            case rel =>
              refine ⟨k + 1, by omega, by go_num, A0.ne1 (by omega) _ _, A1.ne1 (by omega) _ _, A2.ne1 (by omega) _ _, ?_, B.setCell (by simp only; omega) _⟩
              rw [HS.out, if_pos q1, show min f t = t by omega]
              exact A3.put1 t
            case measure => simp [intOf]; omega
          · skip
            have d1 : decide (bh ≤ t) = true := decide_eq_true q1
            have d2 : decide (t < f) = false := decide_eq_false q2
            refine wp_region_quiet_below (by kernel_rfl) (by kernel_rfl) ?_
            repeat (go_big_quiet_step (fail))
            refine wpQuiet_nil ?_
            intro _ hw'
            obtain ⟨⟨dq, osq⟩, hw''⟩ := hw'
            subst hw''
            have Bq := below_regrown wr dq osq
            replace A0 := A0.stay Bq
            replace A1 := A1.stay Bq
            replace A2 := A2.stay Bq
            replace A3 := A3.stay Bq
            replace B := Below.on B Bq
            replace hc := cell_below hc Bq
            clear Bq f0 f1 f2
            simp only
            generalize grow (redrawn wr dq) osq = Wq at *
            go_wp2_with fail
            go_roundw
            case rel =>
              refine ⟨k + 1, by omega, by go_num, A0, A1, A2, ?_, B⟩
              rw [HS.out, if_pos q1, show min f t = f by omega]
              exact A3
            case measure => simp [intOf]; omega
        · skip
          have d1 : decide (bh ≤ t) = false := decide_eq_false q1
          refine wp_region_quiet_below (by kernel_rfl) (by kernel_rfl) ?_
          repeat (go_big_quiet_step (fail))
          refine wpQuiet_nil ?_
          intro _ hw'
          obtain ⟨⟨dq, osq⟩, hw''⟩ := hw'
          subst hw''
          have Bq := below_regrown wr dq osq
          replace A0 := A0.stay Bq
          replace A1 := A1.stay Bq
          replace A2 := A2.stay Bq
          replace A3 := A3.stay Bq
          replace B := Below.on B Bq
          replace hc := cell_below hc Bq
          clear Bq f0 f1 f2
          simp only
          generalize grow (redrawn wr dq) osq = Wq at *
          go_wp2_with fail
          go_roundw
          case rel =>
            refine ⟨k + 1, by omega, by go_num, A0, A1, A2, ?_, B⟩
            rw [HS.out, if_neg q1]
            exact A3
          case measure => simp [intOf]; omega
      · have hkL : L = k := by omega
        subst hkL
        have hli : ¬ (L : Int) < L := by omega
        rw [HG.out] at A3
        clear hlt hk
        have z0 := A3.c0; have z1 := A3.c1; have y0 := A2.c0; have y1 := A2.c1; have y2 := A2.f0; have y3 := A2.f1
        go_wp2_with fail
        exact bodyPost_ret (v := sv (al, fH)) (by simp [results, Try.results25, go_sem, *]) rfl ⟨by rw [HW.out], Below.put B (by omega) _ _⟩
  · skip
    have HW : Hid (R = (al, ah)) := WN.out (by omega)
    have x0 := A0.c0; have x1 := A0.c1; have u0 := A1.c0; have u1 := A1.c1
    have z0 := A3.c0; have z1 := A3.c1; have y0 := A2.c0; have y1 := A2.c1; have y2 := A2.f0; have y3 := A2.f1
    go_wp2_with fail
    exact bodyPost_ret (v := sv (al, ah)) (by simp [results, Try.results25, go_sem, *]) rfl ⟨by rw [HW.out], Below.put B (by omega) _ _⟩
theorem rwiden_any (o n : Sp) (ts : List Int) (a : Option Addr) (c : Nat) (hl : ts.length < 4611686018427387904) (w : World) (ht : Ths w a ts) : Calls Try.prog 25 #[sv o, sv n, .slice a ts.length c] w fun e w' => e = .returned (sv (widS o n ts)) ∧ Below w.heap.size w w' := by
  obtain ⟨al, ah⟩ := o
  obtain ⟨bl, bh⟩ := n
  by_cases h1 : ah < al
  · rw [show widS (al, ah) (bl, bh) ts = (bl, bh) from if_pos h1]
    exact rwiden_e1 al ah bl bh ts a c h1 w
  · by_cases h2 : bh < bl
    · have hj : joinS (al, ah) (bl, bh) = (al, ah) := by unfold joinS; rw [if_neg h1, if_pos h2]
      rw [show widS (al, ah) (bl, bh) ts = (al, ah) by unfold widS; rw [if_neg h1, hj, if_pos rfl, if_pos rfl]]
      exact rwiden_e2 al ah bl bh ts a c (by omega) h2 w
    · by_cases h3 : bl < al
      · exact rwiden_lo al ah bl bh ts a c (by omega) (by omega) h3 hl w ht
      · exact rwiden_hi al ah bl bh ts a c (by omega) (by omega) (by omega) hl w ht
end Go.Proofs.Ytbepapbfohfdkaa

/- The document's own ends: the least span that has numbers. -/
namespace Go.Proofs.Ytbepapbfohfdkaa
open Go.RowKit Go.Lib Go.Sort

theorem rends_no (a : Option Addr) (m c : Nat) (w : World) : Calls Try.prog 41 #[.slice a m c, .bool false] w fun e w' => e = .returned (sv allS) ∧ Below w.heap.size w w' := by
  have HA := Hid.mk' rallV
  have hb := fun (o1 : Obj) => (Below.one (Below.refl _ w) o1 : Below w.heap.size w _)
  go_enter Try.func41, Try.ntmps41
  go_wp2_with (go_at_call 13; refine (HA.out _).mono ?_; rintro e w1 ⟨rfl, hb1⟩; have A := At.stay (At.new w (0, 0)) hb1; have z0 := A.c0; have z1 := A.c1; have z2 := A.f0; have z3 := A.f1)
  exact bodyPost_ret (v := sv allS) (by simp [results, Try.results41, go_sem, allS, *]) rfl ⟨rfl, Below.put (Below.on (hb _) hb1) (by omega) _ _⟩
theorem hull_step {l : List Int} {k : Nat} {t : Int} (h : l[k]? = some t) (hk : 0 < k) : hull (l.take (k + 1)) = (min (hull (l.take k)).1 t, max (hull (l.take k)).2 t) := by
  have hne : l.take k ≠ [] := by
    intro e
    have h1 := congrArg List.length e
    have h2 := (List.getElem?_eq_some_iff.1 h).1
    rw [List.length_take, List.length_nil] at h1
    omega
  rw [List.take_add_one, h]
  show hull (l.take k ++ [t]) = _
  rw [← hull_snoc, join_pt _ _ (hull_le _ hne)]
set_option maxHeartbeats 2000000 in
theorem rends_yes (l : List Int) (a : Option Addr) (c : Nat) (hne : 0 < l.length) (hl : l.length < 4611686018427387904) (w : World) (ht : Ths w a l) : Calls Try.prog 41 #[.slice a l.length c, .bool true] w fun e w' => e = .returned (sv (hull l)) ∧ Below w.heap.size w w' := by
  have HL := Hid.mk' lesB
  have HG := Hid.mk' greB
  have HU : Hid (hull (l.take l.length) = hull l) := by show _ = _; rw [List.take_length]
  obtain ⟨t0, hg0⟩ : ∃ t, l[0]? = some t := ⟨_, List.getElem?_eq_getElem hne⟩
  have h1 : hull (l.take 1) = (t0, t0) := by
    have e : l.take (0 + 1) = l.take 0 ++ [t0] := by rw [List.take_add_one, hg0]; rfl
    rw [show (1 : Nat) = 0 + 1 from rfl, e]
    exact join_none t0
  have H1 := Hid.mk' h1
  clear h1
  generalize hull l = R at *
  obtain ⟨R1, R2⟩ := R
  generalize hL : l.length = L at *
  have hLi : (0 : Int) < L := by omega
  go_enter Try.func41, Try.ntmps41
  go_upto_region 3 with fail
  have Z := At.new w (0, 0)
  have B := Below.one (Below.refl _ w) (.cells #[.int .i64 0, .int .i64 0] 23)
  simp only at Z
  have hg : w.heap.size < (w.alloc (.cells #[.int .i64 0, .int .i64 0] 23)).heap.size := by simp
  generalize w.alloc (.cells #[.int .i64 0, .int .i64 0] 23) = W at *
  obtain ⟨tb, tof, rfl, c0⟩ := (ht.stay B).cell hg0
  rw [Nat.add_zero] at c0
  have hlb : tb < W.heap.size := lt_of_cell c0
  have ne1 : ¬ W.heap.size = tb := by omega
  have ne2 : ¬ tb = W.heap.size := by omega
  go_region_held3 (fun w' => w'.cell? ⟨tb, tof, none⟩ = some (.int .i64 t0)) (go_keep) (fail)
  have A := (At.new W (t0, t0)).stay (Below.drew (Below.refl _ _))
  replace Z := (Z.more (.cells #[.int .i64 t0, .int .i64 t0] 23)).stay (Below.drew (Below.refl _ _))
  replace B := Below.drew (Below.one B (.cells #[.int .i64 t0, .int .i64 t0] 23))
  simp only at A
  clear c0 ne1 ne2
  generalize (W.alloc (.cells #[.int .i64 t0, .int .i64 t0] 23)).drew = W3 at *
  generalize W.heap.size = gO at *
  rw [← H1.out] at A
  clear H1
  go_wp2_with fail
  go_loopw [6] (fun t6 wr => ∃ k : Nat, 0 < k ∧ k ≤ L ∧ t6 = .int .i64 k ∧ At wr gO (hull (l.take k)) ∧ At wr w.heap.size (0, 0) ∧ Below w.heap.size w wr) (fun t6 _ => L - (intOf t6).toNat)
  case atStart => exact ⟨1, by omega, by omega, rfl, A, Z, B⟩
  case round =>
    clear A Z B
    obtain ⟨k, hk0, hk, rfl, A, Z, B⟩ := hrel
    by_cases hlt : k < L
    · have hli : (k : Int) < L := by omega
      obtain ⟨t, hgt⟩ : ∃ t, l[k]? = some t := ⟨_, List.getElem?_eq_getElem (by omega)⟩
      obtain ⟨b2, o2, e2, hc⟩ := (ht.stay B).cell hgt
      injection e2 with e2
      injection e2 with e3 e4
      subst e3 e4
      have HS := Hid.mk' (hull_step hgt hk0)
      generalize hull (l.take k) = H at *
      obtain ⟨q1, q2⟩ := H
      simp only at HS
      go_upto_region 7 with fail
      have f0 := fun d os => cell_regrown hc d os
      have f1 := A.r0
      simp only at f1
      refine region_below_tail 8 (by kernel_rfl) (by kernel_rfl) ?_
      simp only [List.take_succ_cons, List.take_zero, List.drop_succ_cons, List.drop_zero]
      repeat (go_big_quiet_step (first | (go_at_call 29; with_reducible exact Calls.regrown_of (HL.out _ _ _))))
      refine wpQuiet_nil ?_
      intro _ hw'
      obtain ⟨⟨dq, osq⟩, hw''⟩ := hw'
      subst hw''
      have Bq := below_regrown wr dq osq
      replace A := A.stay Bq
      replace Z := Z.stay Bq
      replace B := Below.on B Bq
      replace hc := cell_below hc Bq
      clear Bq f0 f1
      simp only
      generalize grow (redrawn wr dq) osq = W7 at *
      have e2 := A.f0; have e3 := A.c0
      go_upto_region 8 with fail
      replace A := A.put0 (min q1 t)
      replace Z := Z.ne1 (k := gO) (by omega) 0 (.int .i64 (min q1 t))
      replace B := B.setCell (show w.heap.size ≤ (⟨gO, 0, none⟩ : Addr).block by simp only; omega) (.int .i64 (min q1 t))
      have hcn : (⟨gO, 0, none⟩ : Addr) ≠ ⟨tb, tof + k, none⟩ := fun h => by
        have h2 : gO = tb := congrArg Addr.block h
        omega
      replace hc := (World.cell?_setCell_other (w := W7) (a := ⟨gO, 0, none⟩) (v := .int .i64 (min q1 t)) (b := ⟨tb, tof + k, none⟩) hcn).trans hc
      simp only at A
      clear e2 e3 hcn
      generalize W7.setCell ⟨gO, 0, none⟩ (.int .i64 (min q1 t)) = W7s at *
      have f0 := fun d os => cell_regrown hc d os
      have f1 := A.r1
      simp only at f1
      refine region_below_tail 8 (by kernel_rfl) (by kernel_rfl) ?_
      simp only [List.take_succ_cons, List.take_zero, List.drop_succ_cons, List.drop_zero]
      repeat (go_big_quiet_step (first | (go_at_call 28; with_reducible exact Calls.regrown_of (HG.out _ _ _))))
      refine wpQuiet_nil ?_
      intro _ hw'
      obtain ⟨⟨dq, osq⟩, hw''⟩ := hw'
      subst hw''
      have Bq := below_regrown W7s dq osq
      replace A := A.stay Bq
      replace Z := Z.stay Bq
      replace B := Below.on B Bq
      replace hc := cell_below hc Bq
      clear Bq f0 f1
      simp only
      generalize grow (redrawn W7s dq) osq = W8 at *
      have e2 := A.f1; have e3 := A.c1
      go_wp2_with fail
      go_roundw
      case rel =>
        refine ⟨k + 1, by omega, by omega, by go_num, ?_, Z.ne1 (by omega) _ _, B.setCell (by simp only; omega) _⟩
        rw [HS.out]
        exact A.put1 (max q2 t)
      case measure => simp [intOf]; omega
    · have hkL : L = k := by omega
      subst hkL
      rw [HU.out] at A
      have hli : ¬ (L : Int) < L := by omega
      have z0 := A.c0; have z1 := A.c1; have y0 := Z.c0; have y1 := Z.c1; have y2 := Z.f0; have y3 := Z.f1
      go_wp2_with fail
      exact bodyPost_ret (v := sv (R1, R2)) (by simp [results, Try.results41, go_sem, *]) rfl ⟨rfl, Below.put B (by omega) _ _⟩
end Go.Proofs.Ytbepapbfohfdkaa
