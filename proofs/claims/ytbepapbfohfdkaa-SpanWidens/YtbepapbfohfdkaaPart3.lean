/- The document's own Widen. -/
import Derived.Test.YtbepapbfohfdkaaPart2
import Derived.Test.YtbepapbfohfdkaaPart1
import Derived.Maps.AppendAt
import Derived.Deep.DeepAppendRoom
import Derived.Deep.AppendSrc
namespace Go.Proofs.Ytbepapbfohfdkaa
open Go.RowKit Go.Lib Go.Sort

theorem cell_below {W W' : World} {p : Addr} {v : Value} (h : W.cell? p = some v) (hb : Below W.heap.size W W') : W'.cell? p = some v := by rw [hb.cell (lt_of_cell h)]; exact h
theorem rwiden_e1 (al ah bl bh : Int) (ts : List Int) (a : Option Addr) (c : Nat) (h1 : ah < al) (w : World) : Calls Try.prog 25 #[sv (al, ah), sv (bl, bh), .slice a ts.length c] w fun e w' => e = .returned (sv (bl, bh)) ∧ Below w.heap.size w w' := by
  have HEa : Hid (∀ w, Calls Try.prog 30 #[.agg #[.int .i64 al, .int .i64 ah]] w fun e w' => e = .returned (.bool true) ∧ Below w.heap.size w w') := noT h1
  have hb := fun (o1 o2 o3 : Obj) => (Below.one (Below.one (Below.one (Below.refl _ w) o1) o2) o3 : Below w.heap.size w _)
  clear h1
  go_enter Try.func25, Try.ntmps25
  go_wp2_with (go_at_call_of 30 (Value.agg #[Value.int .i64 al, Value.int .i64 ah]); refine (HEa.out _).mono ?_; rintro e w1 ⟨rfl, hb1⟩; have A0 := At.stay (At.more (At.more (At.new w (al, ah)) _) _) hb1; have A1 := At.stay (At.more (At.new1 w (bl, bh) _) _) hb1; have A2 := At.stay (At.new2 w (0, 0) _ _) hb1; have x0 := A0.c0; have x1 := A0.c1; have y0 := A1.c0; have y1 := A1.c1; have z0 := A2.c0; have z1 := A2.c1; have z2 := A2.f0; have z3 := A2.f1)
  exact bodyPost_ret (v := sv (bl, bh)) (by simp [results, Try.results25, go_sem, *]) rfl ⟨rfl, Below.put (Below.on (hb _ _ _) hb1) (by omega) _ _⟩
theorem rwiden_e2 (al ah bl bh : Int) (ts : List Int) (a : Option Addr) (c : Nat) (h1 : al ≤ ah) (h2 : bh < bl) (w : World) : Calls Try.prog 25 #[sv (al, ah), sv (bl, bh), .slice a ts.length c] w fun e w' => e = .returned (sv (al, ah)) ∧ Below w.heap.size w w' := by
  have HEa : Hid (∀ w, Calls Try.prog 30 #[.agg #[.int .i64 al, .int .i64 ah]] w fun e w' => e = .returned (.bool false) ∧ Below w.heap.size w w') := noF h1
  have HEb : Hid (∀ w, Calls Try.prog 30 #[.agg #[.int .i64 bl, .int .i64 bh]] w fun e w' => e = .returned (.bool true) ∧ Below w.heap.size w w') := noT h2
  have hb := fun (o1 o2 o3 : Obj) => (Below.one (Below.one (Below.one (Below.refl _ w) o1) o2) o3 : Below w.heap.size w _)
  clear h1 h2
  go_enter Try.func25, Try.ntmps25
  go_wp2_with (first | (go_at_call_of 30 (Value.agg #[Value.int .i64 al, Value.int .i64 ah]); refine (HEa.out _).mono ?_; rintro e w1 ⟨rfl, hb1⟩; have A0 := At.stay (At.more (At.more (At.new w (al, ah)) _) _) hb1; have A1 := At.stay (At.more (At.new1 w (bl, bh) _) _) hb1; have A2 := At.stay (At.new2 w (0, 0) _ _) hb1; have x0 := A0.c0; have x1 := A0.c1; have y0 := A1.c0; have y1 := A1.c1; have z0 := A2.c0; have z1 := A2.c1; have z2 := A2.f0; have z3 := A2.f1) | (go_at_call_of 30 (Value.agg #[Value.int .i64 bl, Value.int .i64 bh]); refine (HEb.out _).mono ?_; rintro e w2 ⟨rfl, hb2⟩; have D0 := A0.stay hb2; have D1 := A1.stay hb2; have D2 := A2.stay hb2; have u0 := D0.c0; have u1 := D0.c1; have v0 := D1.c0; have v1 := D1.c1; have t0 := D2.c0; have t1 := D2.c1; have t2 := D2.f0; have t3 := D2.f1))
  exact bodyPost_ret (v := sv (al, ah)) (by simp [results, Try.results25, go_sem, *]) rfl ⟨rfl, Below.put (Below.on (Below.on (hb _ _ _) hb1) hb2) (by omega) _ _⟩
theorem wid_ll {al ah bl bh : Int} {ts : List Int} (h1 : al ≤ ah) (h2 : bl ≤ bh) (h3 : bl < al) (hh : ah < bh) : widS (al, ah) (bl, bh) ts = (floorN ts bl, roofN ts bh) := by
  have hj : joinS (al, ah) (bl, bh) = (bl, bh) := by unfold joinS; rw [if_neg (by simp only; omega), if_neg (by simp only; omega)]; exact Prod.ext (by simp only; omega) (by simp only; omega)
  unfold widS
  rw [if_neg (by simp only; omega), hj, if_neg (by simp only; omega), if_neg (by simp only; omega)]
theorem wid_ln {al ah bl bh : Int} {ts : List Int} (h1 : al ≤ ah) (h2 : bl ≤ bh) (h3 : bl < al) (hh : ¬ ah < bh) : widS (al, ah) (bl, bh) ts = (floorN ts bl, ah) := by
  have hj : joinS (al, ah) (bl, bh) = (bl, ah) := by unfold joinS; rw [if_neg (by simp only; omega), if_neg (by simp only; omega)]; exact Prod.ext (by simp only; omega) (by simp only; omega)
  unfold widS
  rw [if_neg (by simp only; omega), hj, if_neg (by simp only; omega), if_pos rfl]
theorem wid_hh {al ah bl bh : Int} {ts : List Int} (h1 : al ≤ ah) (h2 : bl ≤ bh) (h3 : al ≤ bl) (hh : ah < bh) : widS (al, ah) (bl, bh) ts = (al, roofN ts bh) := by
  have hj : joinS (al, ah) (bl, bh) = (al, bh) := by unfold joinS; rw [if_neg (by simp only; omega), if_neg (by simp only; omega)]; exact Prod.ext (by simp only; omega) (by simp only; omega)
  unfold widS
  rw [if_neg (by simp only; omega), hj, if_pos rfl, if_neg (by simp only; omega)]
theorem wid_hn {al ah bl bh : Int} {ts : List Int} (h1 : al ≤ ah) (h2 : bl ≤ bh) (h3 : al ≤ bl) (hh : ¬ ah < bh) : widS (al, ah) (bl, bh) ts = (al, ah) := by
  have hj : joinS (al, ah) (bl, bh) = (al, ah) := by unfold joinS; rw [if_neg (by simp only; omega), if_neg (by simp only; omega)]; exact Prod.ext (by simp only; omega) (by simp only; omega)
  unfold widS
  rw [if_neg (by simp only; omega), hj, if_pos rfl, if_pos rfl]
set_option maxHeartbeats 2000000 in
theorem rwiden_lo (al ah bl bh : Int) (ts : List Int) (a : Option Addr) (c : Nat) (h1 : al ≤ ah) (h2 : bl ≤ bh) (h3 : bl < al) (hl : ts.length < 4611686018427387904) (w : World) (ht : Ths w a ts) : Calls Try.prog 25 #[sv (al, ah), sv (bl, bh), .slice a ts.length c] w fun e w' => e = .returned (sv (widS (al, ah) (bl, bh) ts)) ∧ Below w.heap.size w w' := by
  have HEa : Hid (∀ w, Calls Try.prog 30 #[.agg #[.int .i64 al, .int .i64 ah]] w fun e w' => e = .returned (.bool false) ∧ Below w.heap.size w w') := noF h1
  have HEb : Hid (∀ w, Calls Try.prog 30 #[.agg #[.int .i64 bl, .int .i64 bh]] w fun e w' => e = .returned (.bool false) ∧ Below w.heap.size w w') := noF h2
  have hb := fun (o1 o2 o3 : Obj) => (Below.one (Below.one (Below.one (Below.refl _ w) o1) o2) o3 : Below w.heap.size w _)
  have HF : Hid (flo bl (ts.take ts.length) (-9223372036854775808) = floorN ts bl) := by show _ = _; rw [List.take_length]; rfl
  have HG : Hid (roo bh (ts.take ts.length) 9223372036854775807 = roofN ts bh) := by show _ = _; rw [List.take_length]; rfl
  have WY : Hid (ah < bh → widS (al, ah) (bl, bh) ts = (floorN ts bl, roofN ts bh)) := fun hh => wid_ll h1 h2 h3 hh
  have WN : Hid (¬ ah < bh → widS (al, ah) (bl, bh) ts = (floorN ts bl, ah)) := fun hh => wid_ln h1 h2 h3 hh
  generalize widS (al, ah) (bl, bh) ts = R at *
  generalize floorN ts bl = fL at *
  generalize roofN ts bh = fH at *
  generalize hL : ts.length = L at *
  clear h1 h2
  go_enter Try.func25, Try.ntmps25
  go_upto_region 6 with (first | (go_at_call_of 30 (Value.agg #[Value.int .i64 al, Value.int .i64 ah]); refine (HEa.out _).mono ?_; rintro e w1 ⟨rfl, hb1⟩; have A0 := At.stay (At.more (At.more (At.new w (al, ah)) _) _) hb1; have A1 := At.stay (At.more (At.new1 w (bl, bh) _) _) hb1; have A2 := At.stay (At.new2 w (0, 0) _ _) hb1; have x0 := A0.c0; have x1 := A0.c1; have y0 := A1.c0; have y1 := A1.c1; have z0 := A2.c0; have z1 := A2.c1; have z2 := A2.f0; have z3 := A2.f1) | (go_at_call_of 30 (Value.agg #[Value.int .i64 bl, Value.int .i64 bh]); refine (HEb.out _).mono ?_; rintro e w2 ⟨rfl, hb2⟩; have D0 := A0.stay hb2; have D1 := A1.stay hb2; have D2 := A2.stay hb2; have u0 := D0.c0; have u1 := D0.c1; have v0 := D1.c0; have v1 := D1.c1; have t0 := D2.c0; have t1 := D2.c1; have t2 := D2.f0; have t3 := D2.f1))
  have B := Below.one (Below.on (Below.on (hb _ _ _) hb1) hb2) (.cells #[.int .i64 al, .int .i64 ah] 23)
  replace A0 := D0.more (.cells #[.int .i64 al, .int .i64 ah] 23)
  replace A1 := D1.more (.cells #[.int .i64 al, .int .i64 ah] 23)
  replace A2 := D2.more (.cells #[.int .i64 al, .int .i64 ah] 23)
  have A3 := At.new w2 (al, ah)
  have hsz : w.heap.size + 2 < w2.heap.size := by have := hb1.size; have := hb2.size; simp only [World.size_alloc] at *; omega
  simp only at A3
  clear hb hb1 hb2 HEa HEb x0 x1 y0 y1 z0 z1 z2 z3 u0 u1 v0 v1 t0 t1 t2 t3 D0 D1 D2
  generalize w2.alloc (.cells #[.int .i64 al, .int .i64 ah] 23) = W at *
  generalize w2.heap.size = gO at *
  have x0 := A0.c0; have x1 := A0.c1; have u0 := A1.c0; have u1 := A1.c1; have z0 := A3.c0; have z1 := A3.c1; have z2 := A3.f0
  go_wp2_with fail
  replace A0 := A0.ne1 (k := gO) (by omega) 0 (.int .i64 (-9223372036854775808))
  replace A1 := A1.ne1 (k := gO) (by omega) 0 (.int .i64 (-9223372036854775808))
  replace A2 := A2.ne1 (k := gO) (by omega) 0 (.int .i64 (-9223372036854775808))
  replace A3 := A3.put0 (-9223372036854775808)
  replace B := B.setCell (show w.heap.size ≤ (⟨gO, 0, none⟩ : Addr).block by simp only; omega) (.int .i64 (-9223372036854775808))
  simp only at A3
  clear x0 x1 u0 u1 z0 z1 z2
  go_loopw [8] (fun t8 wr => ∃ k : Nat, k ≤ L ∧ t8 = .int .i64 k ∧ At wr w.heap.size (al, ah) ∧ At wr (w.heap.size + 1) (bl, bh) ∧ At wr (w.heap.size + 1 + 1) (0, 0) ∧ At wr gO (flo bl (ts.take k) (-9223372036854775808), ah) ∧ Below w.heap.size w wr) (fun t8 _ => L - (intOf t8).toNat)
  case atStart => exact ⟨0, by omega, rfl, A0, A1, A2, A3, B⟩
  case round =>
    clear A0 A1 A2 A3 B
    obtain ⟨k, hk, rfl, A0, A1, A2, A3, B⟩ := hrel
    by_cases hlt : k < L
    · have hli : (k : Int) < L := by omega
      obtain ⟨t, hg⟩ : ∃ t, ts[k]? = some t := ⟨_, List.getElem?_eq_getElem (by omega)⟩
      obtain ⟨tb, tof, rfl, hc⟩ := (ht.stay B).cell hg
      have HS : Hid (flo bl (ts.take (k + 1)) (-9223372036854775808) = if t ≤ bl then max (flo bl (ts.take k) (-9223372036854775808)) t else flo bl (ts.take k) (-9223372036854775808)) := by
        show _ = _
        unfold flo
        rw [List.take_add_one, hg]
        simp only [Option.toList_some, List.foldl_append, List.foldl_cons, List.foldl_nil]
      generalize flo bl (ts.take k) (-9223372036854775808) = f at *
      have hcl := lt_of_cell hc
      simp only at hcl
      go_upto_region 11 with fail
      have f0 := fun d os => cell_regrown hc d os
      have f1 := A1.r0; have f2 := A3.r0
      simp only at f1 f2
      by_cases q1 : t ≤ bl
      · by_cases q2 : f < t
        · skip
          have d1 : decide (t ≤ bl) = true := decide_eq_true q1
          have d2 : decide (f < t) = true := decide_eq_true q2
          refine wp_region_quiet_below (by kernel_rfl) (by kernel_rfl) ?_
          repeat (go_big_quiet_step (fail))
          refine wpQuiet_nil ?_
          intro _ hw'
          obtain ⟨⟨dq, osq⟩, hw''⟩ := hw'
          subst hw''
          have Bq := below_regrown wr dq osq
          replace A0 := A0.stay Bq
          replace A1 := A1.stay Bq
          replace A2 := A2.stay Bq
          replace A3 := A3.stay Bq
          replace B := Below.on B Bq
          replace hc := cell_below hc Bq
          clear Bq f0 f1 f2
          simp only
          generalize grow (redrawn wr dq) osq = Wq at *
          have e2 := A3.f0; have e3 := A3.c0
          go_wp2_with fail
          go_roundw
          case rel =>
            refine ⟨k + 1, by omega, by go_num, A0.ne1 (by omega) _ _, A1.ne1 (by omega) _ _, A2.ne1 (by omega) _ _, ?_, B.setCell (by simp only; omega) _⟩
            rw [HS.out, if_pos q1, show max f t = t by omega]
            exact A3.put0 t
          case measure => simp [intOf]; omega
        · skip
          have d1 : decide (t ≤ bl) = true := decide_eq_true q1
          have d2 : decide (f < t) = false := decide_eq_false q2
          refine wp_region_quiet_below (by kernel_rfl) (by kernel_rfl) ?_
          repeat (go_big_quiet_step (fail))
          refine wpQuiet_nil ?_
          intro _ hw'
          obtain ⟨⟨dq, osq⟩, hw''⟩ := hw'
          subst hw''
          have Bq := below_regrown wr dq osq
          replace A0 := A0.stay Bq
          replace A1 := A1.stay Bq
          replace A2 := A2.stay Bq
          replace A3 := A3.stay Bq
          replace B := Below.on B Bq
          replace hc := cell_below hc Bq
          clear Bq f0 f1 f2
          simp only
          generalize grow (redrawn wr dq) osq = Wq at *
          go_wp2_with fail
          go_roundw
          case rel =>
            refine ⟨k + 1, by omega, by go_num, A0, A1, A2, ?_, B⟩
            rw [HS.out, if_pos q1, show max f t = f by omega]
            exact A3
          case measure => simp [intOf]; omega
      · skip
        have d1 : decide (t ≤ bl) = false := decide_eq_false q1
        refine wp_region_quiet_below (by kernel_rfl) (by kernel_rfl) ?_
        repeat (go_big_quiet_step (fail))
        refine wpQuiet_nil ?_
        intro _ hw'
        obtain ⟨⟨dq, osq⟩, hw''⟩ := hw'
        subst hw''
        have Bq := below_regrown wr dq osq
        replace A0 := A0.stay Bq
        replace A1 := A1.stay Bq
        replace A2 := A2.stay Bq
        replace A3 := A3.stay Bq
        replace B := Below.on B Bq
        replace hc := cell_below hc Bq
        clear Bq f0 f1 f2
        simp only
        generalize grow (redrawn wr dq) osq = Wq at *
        go_wp2_with fail
        go_roundw
        case rel =>
          refine ⟨k + 1, by omega, by go_num, A0, A1, A2, ?_, B⟩
          rw [HS.out, if_neg q1]
          exact A3
        case measure => simp [intOf]; omega
    · have hkL : L = k := by omega
      subst hkL
      have hli : ¬ (L : Int) < L := by omega
      rw [HF.out] at A3
      clear hlt hk
      by_cases hh : ah < bh
      · skip
        have HW : Hid (R = (fL, fH)) := WY.out hh
        have x0 := A0.c0; have x1 := A0.c1; have u0 := A1.c0; have u1 := A1.c1; have z0 := A3.c0; have z1 := A3.c1; have z2 := A3.f1
        go_wp2_with fail
        replace A0 := A0.ne1 (k := gO) (by omega) 1 (.int .i64 9223372036854775807)
        replace A1 := A1.ne1 (k := gO) (by omega) 1 (.int .i64 9223372036854775807)
        replace A2 := A2.ne1 (k := gO) (by omega) 1 (.int .i64 9223372036854775807)
        replace A3 := A3.put1 9223372036854775807
        replace B := B.setCell (show w.heap.size ≤ (⟨gO, 1, none⟩ : Addr).block by simp only; omega) (.int .i64 9223372036854775807)
        simp only at A3
        clear x0 x1 u0 u1 z0 z1 z2
        go_loopw [9] (fun t9 wr => ∃ k : Nat, k ≤ L ∧ t9 = .int .i64 k ∧ At wr w.heap.size (al, ah) ∧ At wr (w.heap.size + 1) (bl, bh) ∧ At wr (w.heap.size + 1 + 1) (0, 0) ∧ At wr gO (fL, roo bh (ts.take k) (9223372036854775807)) ∧ Below w.heap.size w wr) (fun t9 _ => L - (intOf t9).toNat)
        case atStart => exact ⟨0, by omega, rfl, A0, A1, A2, A3, B⟩
        case round =>
          clear A0 A1 A2 A3 B
          obtain ⟨k, hk, rfl, A0, A1, A2, A3, B⟩ := hrel
          by_cases hlt : k < L
          · have hli : (k : Int) < L := by omega
            obtain ⟨t, hg⟩ : ∃ t, ts[k]? = some t := ⟨_, List.getElem?_eq_getElem (by omega)⟩
            obtain ⟨tb, tof, rfl, hc⟩ := (ht.stay B).cell hg
            have HS : Hid (roo bh (ts.take (k + 1)) (9223372036854775807) = if bh ≤ t then min (roo bh (ts.take k) (9223372036854775807)) t else roo bh (ts.take k) (9223372036854775807)) := by
              show _ = _
              unfold roo
              rw [List.take_add_one, hg]
              simp only [Option.toList_some, List.foldl_append, List.foldl_cons, List.foldl_nil]
            generalize roo bh (ts.take k) (9223372036854775807) = f at *
            have hcl := lt_of_cell hc
            simp only at hcl
            go_upto_region 18 with fail
            have f0 := fun d os => cell_regrown hc d os
            have f1 := A1.r1; have f2 := A3.r1
            simp only at f1 f2
            by_cases q1 : bh ≤ t
            · by_cases q2 : t < f
              · skip
                have d1 : decide (bh ≤ t) = true := decide_eq_true q1
                have d2 : decide (t < f) = true := decide_eq_true q2
                refine wp_region_quiet_below (by kernel_rfl) (by kernel_rfl) ?_
                repeat (go_big_quiet_step (fail))
                refine wpQuiet_nil ?_
                intro _ hw'
                obtain ⟨⟨dq, osq⟩, hw''⟩ := hw'
                subst hw''
                have Bq := below_regrown wr dq osq
                replace A0 := A0.stay Bq
                replace A1 := A1.stay Bq
                replace A2 := A2.stay Bq
                replace A3 := A3.stay Bq
                replace B := Below.on B Bq
                replace hc := cell_below hc Bq
                clear Bq f0 f1 f2
                simp only
                generalize grow (redrawn wr dq) osq = Wq at *
                have e2 := A3.f1; have e3 := A3.c1
                go_wp2_with fail
                go_roundw
                case rel =>
                  refine ⟨k + 1, by omega, by go_num, A0.ne1 (by omega) _ _, A1.ne1 (by omega) _ _, A2.ne1 (by omega) _ _, ?_, B.setCell (by simp only; omega) _⟩
                  rw [HS.out, if_pos q1, show min f t = t by omega]
                  exact A3.put1 t
                case measure => simp [intOf]; omega
              · skip
                have d1 : decide (bh ≤ t) = true := decide_eq_true q1
                have d2 : decide (t < f) = false := decide_eq_false q2
                refine wp_region_quiet_below (by kernel_rfl) (by kernel_rfl) ?_
                repeat (go_big_quiet_step (fail))
                refine wpQuiet_nil ?_
                intro _ hw'
                obtain ⟨⟨dq, osq⟩, hw''⟩ := hw'
                subst hw''
                have Bq := below_regrown wr dq osq
                replace A0 := A0.stay Bq
                replace A1 := A1.stay Bq
                replace A2 := A2.stay Bq
                replace A3 := A3.stay Bq
                replace B := Below.on B Bq
                replace hc := cell_below hc Bq
                clear Bq f0 f1 f2
                simp only
                generalize grow (redrawn wr dq) osq = Wq at *
                go_wp2_with fail
                go_roundw
                case rel =>
                  refine ⟨k + 1, by omega, by go_num, A0, A1, A2, ?_, B⟩
                  rw [HS.out, if_pos q1, show min f t = f by omega]
                  exact A3
                case measure => simp [intOf]; omega
            · skip
              have d1 : decide (bh ≤ t) = false := decide_eq_false q1
              refine wp_region_quiet_below (by kernel_rfl) (by kernel_rfl) ?_
              repeat (go_big_quiet_step (fail))
              refine wpQuiet_nil ?_
              intro _ hw'
              obtain ⟨⟨dq, osq⟩, hw''⟩ := hw'
              subst hw''
              have Bq := below_regrown wr dq osq
              replace A0 := A0.stay Bq
              replace A1 := A1.stay Bq
              replace A2 := A2.stay Bq
              replace A3 := A3.stay Bq
              replace B := Below.on B Bq
              replace hc := cell_below hc Bq
              clear Bq f0 f1 f2
              simp only
              generalize grow (redrawn wr dq) osq = Wq at *
              go_wp2_with fail
              go_roundw
              case rel =>
                refine ⟨k + 1, by omega, by go_num, A0, A1, A2, ?_, B⟩
                rw [HS.out, if_neg q1]
                exact A3
              case measure => simp [intOf]; omega
          · have hkL : L = k := by omega
            subst hkL
            have hli : ¬ (L : Int) < L := by omega
            rw [HG.out] at A3
            clear hlt hk
            have z0 := A3.c0; have z1 := A3.c1; have y0 := A2.c0; have y1 := A2.c1; have y2 := A2.f0; have y3 := A2.f1
            go_wp2_with fail
            exact bodyPost_ret (v := sv (fL, fH)) (by simp [results, Try.results25, go_sem, *]) rfl ⟨by rw [HW.out], Below.put B (by omega) _ _⟩
      · skip
        have HW : Hid (R = (fL, ah)) := WN.out (by omega)
        have x0 := A0.c0; have x1 := A0.c1; have u0 := A1.c0; have u1 := A1.c1
        have z0 := A3.c0; have z1 := A3.c1; have y0 := A2.c0; have y1 := A2.c1; have y2 := A2.f0; have y3 := A2.f1
        go_wp2_with fail
        exact bodyPost_ret (v := sv (fL, ah)) (by simp [results, Try.results25, go_sem, *]) rfl ⟨by rw [HW.out], Below.put B (by omega) _ _⟩
set_option maxHeartbeats 2000000 in
theorem rwiden_hi (al ah bl bh : Int) (ts : List Int) (a : Option Addr) (c : Nat) (h1 : al ≤ ah) (h2 : bl ≤ bh) (h3 : al ≤ bl) (hl : ts.length < 4611686018427387904) (w : World) (ht : Ths w a ts) : Calls Try.prog 25 #[sv (al, ah), sv (bl, bh), .slice a ts.length c] w fun e w' => e = .returned (sv (widS (al, ah) (bl, bh) ts)) ∧ Below w.heap.size w w' := by
  have HEa : Hid (∀ w, Calls Try.prog 30 #[.agg #[.int .i64 al, .int .i64 ah]] w fun e w' => e = .returned (.bool false) ∧ Below w.heap.size w w') := noF h1
  have HEb : Hid (∀ w, Calls Try.prog 30 #[.agg #[.int .i64 bl, .int .i64 bh]] w fun e w' => e = .returned (.bool false) ∧ Below w.heap.size w w') := noF h2
  have hb := fun (o1 o2 o3 : Obj) => (Below.one (Below.one (Below.one (Below.refl _ w) o1) o2) o3 : Below w.heap.size w _)
  have HF : Hid (flo bl (ts.take ts.length) (-9223372036854775808) = floorN ts bl) := by show _ = _; rw [List.take_length]; rfl
  have HG : Hid (roo bh (ts.take ts.length) 9223372036854775807 = roofN ts bh) := by show _ = _; rw [List.take_length]; rfl
  have WY : Hid (ah < bh → widS (al, ah) (bl, bh) ts = (al, roofN ts bh)) := fun hh => wid_hh h1 h2 h3 hh
  have WN : Hid (¬ ah < bh → widS (al, ah) (bl, bh) ts = (al, ah)) := fun hh => wid_hn h1 h2 h3 hh
  generalize widS (al, ah) (bl, bh) ts = R at *
  generalize floorN ts bl = fL at *
  generalize roofN ts bh = fH at *
  generalize hL : ts.length = L at *
  clear h1 h2
  go_enter Try.func25, Try.ntmps25
  go_upto_region 6 with (first | (go_at_call_of 30 (Value.agg #[Value.int .i64 al, Value.int .i64 ah]); refine (HEa.out _).mono ?_; rintro e w1 ⟨rfl, hb1⟩; have A0 := At.stay (At.more (At.more (At.new w (al, ah)) _) _) hb1; have A1 := At.stay (At.more (At.new1 w (bl, bh) _) _) hb1; have A2 := At.stay (At.new2 w (0, 0) _ _) hb1; have x0 := A0.c0; have x1 := A0.c1; have y0 := A1.c0; have y1 := A1.c1; have z0 := A2.c0; have z1 := A2.c1; have z2 := A2.f0; have z3 := A2.f1) | (go_at_call_of 30 (Value.agg #[Value.int .i64 bl, Value.int .i64 bh]); refine (HEb.out _).mono ?_; rintro e w2 ⟨rfl, hb2⟩; have D0 := A0.stay hb2; have D1 := A1.stay hb2; have D2 := A2.stay hb2; have u0 := D0.c0; have u1 := D0.c1; have v0 := D1.c0; have v1 := D1.c1; have t0 := D2.c0; have t1 := D2.c1; have t2 := D2.f0; have t3 := D2.f1))
  have B := Below.one (Below.on (Below.on (hb _ _ _) hb1) hb2) (.cells #[.int .i64 al, .int .i64 ah] 23)
  replace A0 := D0.more (.cells #[.int .i64 al, .int .i64 ah] 23)
  replace A1 := D1.more (.cells #[.int .i64 al, .int .i64 ah] 23)
  replace A2 := D2.more (.cells #[.int .i64 al, .int .i64 ah] 23)
  have A3 := At.new w2 (al, ah)
  have hsz : w.heap.size + 2 < w2.heap.size := by have := hb1.size; have := hb2.size; simp only [World.size_alloc] at *; omega
  simp only at A3
  clear hb hb1 hb2 HEa HEb x0 x1 y0 y1 z0 z1 z2 z3 u0 u1 v0 v1 t0 t1 t2 t3 D0 D1 D2
  generalize w2.alloc (.cells #[.int .i64 al, .int .i64 ah] 23) = W at *
  generalize w2.heap.size = gO at *
  by_cases hh : ah < bh
  · skip
    have HW : Hid (R = (al, fH)) := WY.out hh
    have x0 := A0.c0; have x1 := A0.c1; have u0 := A1.c0; have u1 := A1.c1; have z0 := A3.c0; have z1 := A3.c1; have z2 := A3.f1
    go_wp2_with fail
    replace A0 := A0.ne1 (k := gO) (by omega) 1 (.int .i64 9223372036854775807)
    replace A1 := A1.ne1 (k := gO) (by omega) 1 (.int .i64 9223372036854775807)
    replace A2 := A2.ne1 (k := gO) (by omega) 1 (.int .i64 9223372036854775807)
    replace A3 := A3.put1 9223372036854775807
    replace B := B.setCell (show w.heap.size ≤ (⟨gO, 1, none⟩ : Addr).block by simp only; omega) (.int .i64 9223372036854775807)
    simp only at A3
    clear x0 x1 u0 u1 z0 z1 z2
    go_loopw [9] (fun t9 wr => ∃ k : Nat, k ≤ L ∧ t9 = .int .i64 k ∧ At wr w.heap.size (al, ah) ∧ At wr (w.heap.size + 1) (bl, bh) ∧ At wr (w.heap.size + 1 + 1) (0, 0) ∧ At wr gO (al, roo bh (ts.take k) (9223372036854775807)) ∧ Below w.heap.size w wr) (fun t9 _ => L - (intOf t9).toNat)
    case atStart => exact ⟨0, by omega, rfl, A0, A1, A2, A3, B⟩
    case round =>
      clear A0 A1 A2 A3 B
      obtain ⟨k, hk, rfl, A0, A1, A2, A3, B⟩ := hrel
      by_cases hlt : k < L
      · have hli : (k : Int) < L := by omega
        obtain ⟨t, hg⟩ : ∃ t, ts[k]? = some t := ⟨_, List.getElem?_eq_getElem (by omega)⟩
        obtain ⟨tb, tof, rfl, hc⟩ := (ht.stay B).cell hg
        have HS : Hid (roo bh (ts.take (k + 1)) (9223372036854775807) = if bh ≤ t then min (roo bh (ts.take k) (9223372036854775807)) t else roo bh (ts.take k) (9223372036854775807)) := by
          show _ = _
          unfold roo
          rw [List.take_add_one, hg]
          simp only [Option.toList_some, List.foldl_append, List.foldl_cons, List.foldl_nil]
        generalize roo bh (ts.take k) (9223372036854775807) = f at *
        have hcl := lt_of_cell hc
        simp only at hcl
        go_upto_region 18 with fail
        have f0 := fun d os => cell_regrown hc d os
        have f1 := A1.r1; have f2 := A3.r1
        simp only at f1 f2
        by_cases q1 : bh ≤ t
        · by_cases q2 : t < f
          · skip
            have d1 : decide (bh ≤ t) = true := decide_eq_true q1
            have d2 : decide (t < f) = true := decide_eq_true q2
            refine wp_region_quiet_below (by kernel_rfl) (by kernel_rfl) ?_
            repeat (go_big_quiet_step (fail))
            refine wpQuiet_nil ?_
            intro _ hw'
            obtain ⟨⟨dq, osq⟩, hw''⟩ := hw'
            subst hw''
            have Bq := below_regrown wr dq osq
            replace A0 := A0.stay Bq
            replace A1 := A1.stay Bq
            replace A2 := A2.stay Bq
            replace A3 := A3.stay Bq
            replace B := Below.on B Bq
            replace hc := cell_below hc Bq
            clear Bq f0 f1 f2
            simp only
            generalize grow (redrawn wr dq) osq = Wq at *
            have e2 := A3.f1; have e3 := A3.c1
            go_wp2_with fail
            go_roundw
            case rel =>
              refine ⟨k + 1, by omega, by go_num, A0.ne1 (by omega) _ _, A1.ne1 (by omega) _ _, A2.ne1 (by omega) _ _, ?_, B.setCell (by simp only; omega) _⟩
              rw [HS.out, if_pos q1, show min f t = t by omega]
              exact A3.put1 t
            case measure => simp [intOf]; omega
          · skip
            have d1 : decide (bh ≤ t) = true := decide_eq_true q1
            have d2 : decide (t < f) = false := decide_eq_false q2
            refine wp_region_quiet_below (by kernel_rfl) (by kernel_rfl) ?_
            repeat (go_big_quiet_step (fail))
            refine wpQuiet_nil ?_
            intro _ hw'
            obtain ⟨⟨dq, osq⟩, hw''⟩ := hw'
            subst hw''
            have Bq := below_regrown wr dq osq
            replace A0 := A0.stay Bq
            replace A1 := A1.stay Bq
            replace A2 := A2.stay Bq
            replace A3 := A3.stay Bq
            replace B := Below.on B Bq
            replace hc := cell_below hc Bq
            clear Bq f0 f1 f2
            simp only
            generalize grow (redrawn wr dq) osq = Wq at *
            go_wp2_with fail
            go_roundw
            case rel =>
              refine ⟨k + 1, by omega, by go_num, A0, A1, A2, ?_, B⟩
              rw [HS.out, if_pos q1, show min f t = f by omega]
              exact A3
            case measure => simp [intOf]; omega
        · skip
          have d1 : decide (bh ≤ t) = false := decide_eq_false q1
          refine wp_region_quiet_below (by kernel_rfl) (by kernel_rfl) ?_
          repeat (go_big_quiet_step (fail))
          refine wpQuiet_nil ?_
          intro _ hw'
          obtain ⟨⟨dq, osq⟩, hw''⟩ := hw'
          subst hw''
          have Bq := below_regrown wr dq osq
          replace A0 := A0.stay Bq
          replace A1 := A1.stay Bq
          replace A2 := A2.stay Bq
          replace A3 := A3.stay Bq
          replace B := Below.on B Bq
          replace hc := cell_below hc Bq
          clear Bq f0 f1 f2
          simp only
          generalize grow (redrawn wr dq) osq = Wq at *
          go_wp2_with fail
          go_roundw
          case rel =>
            refine ⟨k + 1, by omega, by go_num, A0, A1, A2, ?_, B⟩
            rw [HS.out, if_neg q1]
            exact A3
          case measure => simp [intOf]; omega
      · have hkL : L = k := by omega
        subst hkL
        have hli : ¬ (L : Int) < L := by omega
        rw [HG.out] at A3
        clear hlt hk
        have z0 := A3.c0; have z1 := A3.c1; have y0 := A2.c0; have y1 := A2.c1; have y2 := A2.f0; have y3 := A2.f1
        go_wp2_with fail
        exact bodyPost_ret (v := sv (al, fH)) (by simp [results, Try.results25, go_sem, *]) rfl ⟨by rw [HW.out], Below.put B (by omega) _ _⟩
  · skip
    have HW : Hid (R = (al, ah)) := WN.out (by omega)
    have x0 := A0.c0; have x1 := A0.c1; have u0 := A1.c0; have u1 := A1.c1
    have z0 := A3.c0; have z1 := A3.c1; have y0 := A2.c0; have y1 := A2.c1; have y2 := A2.f0; have y3 := A2.f1
    go_wp2_with fail
    exact bodyPost_ret (v := sv (al, ah)) (by simp [results, Try.results25, go_sem, *]) rfl ⟨by rw [HW.out], Below.put B (by omega) _ _⟩
theorem rwiden_any (o n : Sp) (ts : List Int) (a : Option Addr) (c : Nat) (hl : ts.length < 4611686018427387904) (w : World) (ht : Ths w a ts) : Calls Try.prog 25 #[sv o, sv n, .slice a ts.length c] w fun e w' => e = .returned (sv (widS o n ts)) ∧ Below w.heap.size w w' := by
  obtain ⟨al, ah⟩ := o
  obtain ⟨bl, bh⟩ := n
  by_cases h1 : ah < al
  · rw [show widS (al, ah) (bl, bh) ts = (bl, bh) from if_pos h1]
    exact rwiden_e1 al ah bl bh ts a c h1 w
  · by_cases h2 : bh < bl
    · have hj : joinS (al, ah) (bl, bh) = (al, ah) := by unfold joinS; rw [if_neg h1, if_pos h2]
      rw [show widS (al, ah) (bl, bh) ts = (al, ah) by unfold widS; rw [if_neg h1, hj, if_pos rfl, if_pos rfl]]
      exact rwiden_e2 al ah bl bh ts a c (by omega) h2 w
    · by_cases h3 : bl < al
      · exact rwiden_lo al ah bl bh ts a c (by omega) (by omega) h3 hl w ht
      · exact rwiden_hi al ah bl bh ts a c (by omega) (by omega) (by omega) hl w ht
end Go.Proofs.Ytbepapbfohfdkaa

/- Rows of numbers that the call owns; what is appended to them. -/
namespace Go.Proofs.Ytbepapbfohfdkaa
open Go.RowKit Go.Lib Go.Sort

def ob (v : Value) : List Nat := v.ownBlock.toList
theorem gown_keep {W W' : World} {N n sz : Nat} {T : TypeId} {v : Value} {xs : List Value} (h : W.ownsRow N T sz v n xs) (hk : ∀ g ∈ ob v, W'.heap[g]? = W.heap[g]?) : W'.ownsRow N T sz v n xs := by
  refine ⟨h.1, ?_⟩
  rcases h.2 with h0 | ⟨g', cap, cur, rfl, h1, h2, h3⟩
  · exact .inl h0
  · exact .inr ⟨g', cap, cur, rfl, h1, (hk g' (by simp [ob, Value.ownBlock])).trans h2, h3⟩
theorem gown_form {W : World} {N n sz : Nat} {T : TypeId} {v : Value} {xs : List Value} (h : W.ownsRow N T sz v n xs) : ∃ ao cap, v = .slice ao n cap := by
  rcases h.2 with ⟨rfl, rfl⟩ | ⟨g', cap, cur, rfl, _⟩
  · exact ⟨_, _, rfl⟩
  · exact ⟨_, _, rfl⟩
/-- What a row holds, cell by cell. -/
theorem gown_cell {W : World} {N n sz : Nat} {T : TypeId} {v : Value} {xs : List Value} (h : W.ownsRow N T sz v n xs) {j : Nat} {u : Value} (hj : xs[j]? = some u) : ∃ g cap, v = .slice (some ⟨g, 0, none⟩) n cap ∧ n ≤ cap ∧ W.cell? ⟨g, j, none⟩ = some u ∧ W.frozen? ⟨g, j, none⟩ = false := by
  rcases h.2 with ⟨rfl, rfl⟩ | ⟨g', cap, cur, rfl, h1, h2, h3, h4, h5, h6⟩
  · have := (List.getElem?_eq_some_iff.1 hj).1; have h1 := h.1; omega
  · refine ⟨g', cap, rfl, h3, ?_, Lib.frozen_of_heap h2 _⟩
    rw [Lib.cell_of_heap h2, ← Array.getElem?_toList]
    rw [← h6, List.getElem?_take] at hj
    split at hj
    · exact hj
    · cases hj
theorem run_append_src {P : Program} (w : World) (base : Nat) (t ty e : TypeId) (i : TypeInfo) (size : Nat) (ht : P.underlying t = some (.slice e)) (hi : P.info? e = some i) (hsize : i.size = size)
    (g n cap : Nat) (xs : List Value) (hown : w.ownsRow base e size (.slice (some ⟨g, 0, none⟩) n cap) n xs)
    (a : Option Addr) (m c : Nat) (news : List Value) (hl : news.length = m * size) (hnone : a = none → m = 0) (hnews : ∀ ad, a = some ad → ∀ j u, news[j]? = some u → w.cell? (ad.add j) = some u) (h1 : ∀ u ∈ news, u.oneCell' = true)
    (hroom : n + m ≤ cap) :
    ∃ w', (Builtin.append_ #[t, t] ty #[.slice (some ⟨g, 0, none⟩) n cap, .slice a m c]).run P w = .ok (.slice (some ⟨g, 0, none⟩) (n + m) cap) w' ∧
      w'.ownsRow base e size (.slice (some ⟨g, 0, none⟩) (n + m) cap) (n + m) (xs ++ news) ∧ w.grownBy w' (some g) := by
  cases a with
  | some ad => exact run_append_own_spare w base t ty e i size ht hi hsize g n cap xs hown ad m c news hl (hnews ad rfl) h1 hroom
  | none =>
    obtain rfl := hnone rfl
    have hn0 : news = [] := List.eq_nil_of_length_eq_zero (by simpa using hl)
    subst hn0
    refine ⟨w, ?_, by simpa using hown, ⟨rfl, rfl, rfl, Nat.le_refl _, fun _ _ _ => rfl⟩⟩
    have hroom' : n ≤ cap := by omega
    simp [Builtin.append_, run_underlying ht, sizeOf, typeInfo, hi, Builtin.lenOf, hroom', Builtin.firstCells, storeCells]

theorem wpList_append_src {P : Program} (w : World) {ops : Array Oper} {rest : List Oper} {o : Oper} {a : Act} {Q : Exit → Act → World → Prop} (hgd : o.guard = none) (s x : Operand) (t : TypeId)
    (ho : o.op = .call { callee := .builtin .append, args := #[s, x], argTypes := #[t, t] })
    (base : Nat) (e : TypeId) (i : TypeInfo) (size : Nat) (ht : P.underlying t = some (.slice e)) (hi : P.info? e = some i) (hsize : i.size = size)
    (g n cap : Nat) (xs : List Value) (hs : a.eval s = .slice (some ⟨g, 0, none⟩) n cap) (hown : w.ownsRow base e size (.slice (some ⟨g, 0, none⟩) n cap) n xs)
    (ad : Option Addr) (m c : Nat) (news : List Value) (hx : a.eval x = .slice ad m c) (hl : news.length = m * size) (hnone : ad = none → m = 0) (hnews : ∀ ad', ad = some ad' → ∀ j u, news[j]? = some u → w.cell? (ad'.add j) = some u) (h1 : ∀ u ∈ news, u.oneCell' = true)
    (hroom : n + m ≤ cap)
    (h : ∀ w', w'.ownsRow base e size (.slice (some ⟨g, 0, none⟩) (n + m) cap) (n + m) (xs ++ news) → w.grownBy w' (some g) → wpList P ops Q rest (a.put o.dst (.slice (some ⟨g, 0, none⟩) (n + m) cap)) w') : wpList P ops Q (o :: rest) a w := by
  obtain ⟨w', hr, h2, h3⟩ := run_append_src (P := P) w base t o.type e i size ht hi hsize g n cap xs hown ad m c news hl hnone hnews h1 hroom
  refine wpList_plain hgd fun K hK => ?_
  unfold Oper.wp execOp
  simp only [ho, resolve, invoke, builtin, Sem.run_bind, Sem.run_pure, Result.andThen_ok, List.map_toArray, List.map_cons, List.map_nil, hs, hx, hr]
  exact hK _ _ (h w' h2 h3)

def iV (x : Int) : Value := .int .i64 x
theorem Try.infoI : (Try.prog.info? 2).map (fun i => (i.zero, i.size, i.bytes)) = some (some (.int .i64 0), 1, 8) := by kernel_rfl
theorem info_parts {o : Option TypeInfo} {z : Option Value} {s b : Nat} (h : o.map (fun i => (i.zero, i.size, i.bytes)) = some (z, s, b)) : ∃ i, o = some i ∧ i.zero = z ∧ i.size = s ∧ i.bytes = b := by
  cases o with
  | none => simp at h
  | some i => simp at h; exact ⟨i, rfl, h.1, h.2.1, h.2.2⟩
/-- A row of numbers that lies in memory of the call's own, at N and above. -/
def Row (W : World) (N : Nat) (v : Value) (l : List Int) : Prop := W.ownsRow N 2 1 v l.length (l.map iV)
theorem Row.form {W : World} {N : Nat} {v : Value} {l : List Int} (h : Row W N v l) : ∃ ao cap, v = .slice ao l.length cap := gown_form h
theorem Row.low {W : World} {N : Nat} {v : Value} {l : List Int} (h : Row W N v l) : ∀ g ∈ ob v, N ≤ g ∧ g < W.heap.size := fun g hg => by
  rcases h.2 with ⟨rfl, _⟩ | ⟨g', cap, cur, rfl, h1, h2, _⟩
  · simp [ob, Value.ownBlock] at hg
  · have : g = g' := by simpa [ob, Value.ownBlock] using hg
    subst this
    exact ⟨h1, (Array.getElem?_eq_some_iff.1 h2).1⟩
theorem Row.stay {W W' : World} {N : Nat} {v : Value} {l : List Int} (h : Row W N v l) (hb : Below W.heap.size W W') : Row W' N v l :=
  gown_keep h fun g hg => hb.block _ (h.low g hg).2
theorem row_new (W : World) : Row (W.alloc (.cells #[] 2)) W.heap.size (.slice (some ⟨W.heap.size, 0, none⟩) 0 0) [] :=
  ⟨rfl, .inr ⟨W.heap.size, 0, #[], rfl, Nat.le_refl _, heap_alloc_new _ _, Nat.le_refl _, by unfold maxLen; omega, rfl, rfl⟩⟩
/-- It is a list of numbers. -/
theorem Row.ths {W : World} {N : Nat} {v : Value} {l : List Int} (h : Row W N v l) : ∃ a c, v = .slice a l.length c ∧ Ths W a l := by
  obtain ⟨a, c, rfl⟩ := h.form
  refine ⟨a, c, rfl, fun i cs hi => ?_⟩
  rw [List.getElem?_map, Option.map_eq_some_iff] at hi
  obtain ⟨x, hx, rfl⟩ := hi
  obtain ⟨g, cap, e, _, hc, _⟩ := gown_cell h (j := i) (u := iV x) (by simp [hx])
  injection e with e1 e2
  refine ⟨g, 0, e1, fun j v hj => ?_⟩
  match j, hj with
  | 0, hj => simp at hj; subst hj; simpa [iV] using hc
end Go.Proofs.Ytbepapbfohfdkaa

/- SpanWidens: Widen against the document's answer; thresholds stay. -/
namespace Go.Proofs.Ytbepapbfohfdkaa
open Go.RowKit Go.Lib Go.Sort

/-- What is left behind the copy. -/
structure CpW (w w2 : World) (o n : Sp) (ts : List Int) (a : Option Addr) (v : Value) : Prop where
  A0 : At w2 w.heap.size o
  A1 : At w2 (w.heap.size + 1) n
  T : Ths w2 a ts
  B : Below w.heap.size w w2
  R : ∃ a' c', v = .slice a' ts.length c' ∧ Ths w2 a' ts
theorem cpW {w w2 : World} {o n : Sp} {ts : List Int} {a : Option Addr} {v v0 : Value} (ht : Ths w a ts)
    (o1 : w2.ownsRow (w.heap.size + 1 + 1) 2 1 v ts.length (ts.map iV))
    (o2 : (((w.alloc (.cells #[.int .i64 o.1, .int .i64 o.2] 23)).alloc (.cells #[.int .i64 n.1, .int .i64 n.2] 23)).alloc (.cells #[] 2)).grownBy w2 v0.ownBlock) (h0 : v0.ownBlock = some (w.heap.size + 1 + 1)) : CpW w w2 o n ts a v := by
  have hb : Below (w.heap.size + 1 + 1) ((w.alloc (.cells #[.int .i64 o.1, .int .i64 o.2] 23)).alloc (.cells #[.int .i64 n.1, .int .i64 n.2] 23)) w2 := by
    have := Below.alloc (Below.refl (w.heap.size + 1 + 1) ((w.alloc (.cells #[.int .i64 o.1, .int .i64 o.2] 23)).alloc (.cells #[.int .i64 n.1, .int .i64 n.2] 23))) (by simp) (.cells #[] 2)
    exact this.grown o2 (by simp) (fun k hk => by rw [h0] at hk; simp at hk; omega)
  have hb2 : Below w.heap.size w w2 := (Below.one (Below.one (Below.refl _ w) _) _).trans (hb.mono (by omega))
  have hr : Row w2 (w.heap.size + 1 + 1) v ts := o1
  refine ⟨?_, ?_, ht.stay hb2, hb2, hr.ths⟩
  · exact (hb.block _ (by omega)).trans (At.more (At.new w o) _)
  · exact (hb.block _ (by omega)).trans (At.new1 w n _)

set_option maxHeartbeats 2000000 in
theorem spanWidens_any (o n : Sp) (ts : List Int) (a : Option Addr) (c : Nat) (w : World) (_ho : o.Ok) (_hn : n.Ok) (hl : ts.length * 8 ≤ 140737488351232) (ht : Ths w a ts) (_hq : ∀ t ∈ ts, Nm t) : Calls Try.prog 6 #[sv o, sv n, .slice a ts.length c] w fun e w' => e = .returned (.bool true) ∧ Below w.heap.size w w' := by
  have HF := Hid.mk' fixed_any
  have HWd := Hid.mk' fun a' c' w h => widen_any o n ts a' c' (by omega) w h
  have HWr := Hid.mk' fun w h => rwiden_any o n ts a c (by omega) w h
  have HC : Hid (∀ {w2 : World} {v v0 : Value}, w2.ownsRow (w.heap.size + 1 + 1) 2 1 v ts.length (ts.map iV) → (((w.alloc (.cells #[.int .i64 o.1, .int .i64 o.2] 23)).alloc (.cells #[.int .i64 n.1, .int .i64 n.2] 23)).alloc (.cells #[] 2)).grownBy w2 v0.ownBlock → v0.ownBlock = some (w.heap.size + 1 + 1) → CpW w w2 o n ts a v) := fun h1 h2 h3 => cpW ht h1 h2 h3
  have hT0 : a = none → ts = [] := fun h => by
    cases ts with
    | nil => rfl
    | cons t r => obtain ⟨b, of, e, _⟩ := ht.cell (k := 0) (t := t) rfl; rw [h] at e; cases e
  have hnew : ∀ ad, a = some ad → ∀ W, Below w.heap.size w W → ∀ j u, (ts.map iV)[j]? = some u → W.cell? (ad.add j) = some u := fun ad e W hW j u hj => by
    rw [List.getElem?_map, Option.map_eq_some_iff] at hj
    obtain ⟨x, hx, rfl⟩ := hj
    obtain ⟨b, of, e2, hc⟩ := (ht.stay hW).cell hx
    rw [e] at e2
    injection e2 with e2
    subst e2
    simp only [Addr.add, iV]
    split
    · next h0 => subst h0; simpa using hc
    · simpa using hc
  obtain ⟨i0, hi, hz0, hz1, hz2⟩ := info_parts Try.infoI
  generalize widS o n ts = R at *
  obtain ⟨R1, R2⟩ := R
  have hg := eqGuard_s
  have q1 := fun w => equalIn_T (rfl : (R1, R2) = (R1, R2)) w
  have hW0 : Below w.heap.size w (((w.alloc (.cells #[.int .i64 o.1, .int .i64 o.2] 23)).alloc (.cells #[.int .i64 n.1, .int .i64 n.2] 23)).alloc (.cells #[] 2)) := Below.one (Below.one (Below.one (Below.refl _ w) _) _) _
  have hown : World.ownsRow (((w.alloc (.cells #[.int .i64 o.1, .int .i64 o.2] 23)).alloc (.cells #[.int .i64 n.1, .int .i64 n.2] 23)).alloc (.cells #[] 2)) (w.heap.size + 1 + 1) 2 1 (.slice (some ⟨w.heap.size + 1 + 1, 0, none⟩) 0 0) 0 [] := by
    have := row_new ((w.alloc (.cells #[.int .i64 o.1, .int .i64 o.2] 23)).alloc (.cells #[.int .i64 n.1, .int .i64 n.2] 23))
    rwa [World.size_alloc, World.size_alloc] at this
  generalize hL : ts.length = L at *
  go_enter Try.func6, Try.ntmps6
  cases a with
  | none =>
    have e0 := hT0 rfl
    subst e0
    simp at hL
    subst hL
    go_upto_region 2 with (at_builtin; refine wpList_append_src _ rfl _ _ 38 rfl (w.heap.size + 1 + 1) 2 i0 1 Try.underlying38 hi hz1 (w.heap.size + 1 + 1) 0 0 [] rfl hown none 0 _ [] rfl rfl (fun _ => rfl) (fun _ h => by cases h) (fun u hu => by cases hu) (Nat.le_refl _) ?_; intro w2 ho2 hgr2)
    have C := HC.out (v0 := .slice (some ⟨w.heap.size + 1 + 1, 0, none⟩) 0 0) (by simpa using ho2) hgr2 rfl
    clear ho2 hgr2 HC hown hW0 hnew hT0
    obtain ⟨a', c', e', T'⟩ := C.R
    injection e' with i1 i2 i3
    subst i1 i3
    clear i2
    have A0 := C.A0
    have A1 := C.A1
    have T := C.T
    have B := C.B
    clear C
    have x0 := A0.c0; have x1 := A0.c1; have y0 := A1.c0; have y1 := A1.c1
    go_upto_region 3 with (go_at_call 24; refine (HWd.out _ _ _ T').mono ?_; rintro e w3 ⟨rfl, hb3⟩)
    have B3 := Below.one hb3 (.cells #[.int .i64 R1, .int .i64 R2] 23)
    replace A0 := A0.stay B3
    replace A1 := A1.stay B3
    replace T := T.stay B3
    replace T' := T'.stay B3
    replace B := Below.on B B3
    have A2 := At.new w3 (R1, R2)
    simp only at A2
    clear x0 x1 y0 y1 hb3 B3 HWd
    generalize w3.alloc (.cells #[.int .i64 R1, .int .i64 R2] 23) = W3 at *
    generalize w3.heap.size = g3 at *
    have x0 := A0.r0; have x1 := A0.r1; have y0 := A1.r0; have y1 := A1.r1; have z0 := A2.r0; have z1 := A2.r1
    refine wp_region_quiet_below (by kernel_rfl) (by kernel_rfl) ?_
    repeat (go_big_quiet_step (first | (go_at_call 11; with_reducible exact Calls.regrown_of (HF.out _)) | (go_at_call 25; with_reducible exact Calls.regrown_of (HWr.out _ (T.stay (below_regrown _ _ _))))))
    refine wpQuiet_nil ?_
    intro _ hw'
    obtain ⟨⟨dq, osq⟩, hw''⟩ := hw'
    subst hw''
    have Bq := below_regrown W3 dq osq
    replace T := T.stay Bq
    replace T' := T'.stay Bq
    replace B := Below.on B Bq
    clear Bq x0 x1 y0 y1 z0 z1 A0 A1 A2
    simp only
    generalize grow (redrawn W3 dq) osq = W4 at *
    go_wp2_with fail
    go_loopw [9] (fun t9 wr => ∃ k : Nat, k ≤ 0 ∧ t9 = .int .i64 k ∧ Below W4.heap.size W4 wr) (fun t9 _ => 0 - (intOf t9).toNat)
    case atStart => exact ⟨0, by omega, rfl, Below.refl _ _⟩
    case round =>
      obtain ⟨k, hk, rfl, bw⟩ := hrel
      obtain rfl : k = 0 := by omega
      go_wp2_with fail
      go_ret
      exact ⟨rfl, Below.on B bw⟩
  | some ad =>
    go_upto_region 2 with (at_builtin; refine wpList_append_own _ rfl _ _ 38 rfl (w.heap.size + 1 + 1) 2 i0 (.int .i64 0) 1 8 Try.underlying38 hi hz0 hz1 hz2 rfl (by decide) _ _ _ rfl hown ad L _ (ts.map iV) rfl (by simp [hL]) (hnew ad rfl _ hW0) (fun u hu => by obtain ⟨x, _, rfl⟩ := List.mem_map.1 hu; rfl) (by unfold maxLen; omega) (by omega) (by simp) ?_; intro v2 w2 ho2 hgr2 _)
    have C := HC.out (v0 := .slice (some ⟨w.heap.size + 1 + 1, 0, none⟩) 0 0) (by simpa using ho2) hgr2 rfl
    clear ho2 hgr2 HC hown hW0 hnew hT0
    obtain ⟨a', c', rfl, T'⟩ := C.R
    have A0 := C.A0
    have A1 := C.A1
    have T := C.T
    have B := C.B
    clear C
    have x0 := A0.c0; have x1 := A0.c1; have y0 := A1.c0; have y1 := A1.c1
    go_upto_region 3 with (go_at_call 24; refine (HWd.out a' c' _ T').mono ?_; rintro e w3 ⟨rfl, hb3⟩)
    have B3 := Below.one hb3 (.cells #[.int .i64 R1, .int .i64 R2] 23)
    replace A0 := A0.stay B3
    replace A1 := A1.stay B3
    replace T := T.stay B3
    replace T' := T'.stay B3
    replace B := Below.on B B3
    have A2 := At.new w3 (R1, R2)
    simp only at A2
    clear x0 x1 y0 y1 hb3 B3 HWd
    generalize w3.alloc (.cells #[.int .i64 R1, .int .i64 R2] 23) = W3 at *
    generalize w3.heap.size = g3 at *
    have x0 := A0.r0; have x1 := A0.r1; have y0 := A1.r0; have y1 := A1.r1; have z0 := A2.r0; have z1 := A2.r1
    refine wp_region_quiet_below (by kernel_rfl) (by kernel_rfl) ?_
    repeat (go_big_quiet_step (first | (go_at_call 11; with_reducible exact Calls.regrown_of (HF.out _)) | (go_at_call 25; with_reducible exact Calls.regrown_of (HWr.out _ (T.stay (below_regrown _ _ _))))))
    refine wpQuiet_nil ?_
    intro _ hw'
    obtain ⟨⟨dq, osq⟩, hw''⟩ := hw'
    subst hw''
    have Bq := below_regrown W3 dq osq
    replace T := T.stay Bq
    replace T' := T'.stay Bq
    replace B := Below.on B Bq
    clear Bq x0 x1 y0 y1 z0 z1 A0 A1 A2
    simp only
    generalize grow (redrawn W3 dq) osq = W4 at *
    go_wp2_with fail
    go_loopw [9] (fun t9 wr => ∃ k : Nat, k ≤ L ∧ t9 = .int .i64 k ∧ Below W4.heap.size W4 wr) (fun t9 _ => L - (intOf t9).toNat)
    case atStart => exact ⟨0, by omega, rfl, Below.refl _ _⟩
    case round =>
      obtain ⟨k, hk, rfl, bw⟩ := hrel
      by_cases hlt : k < L
      · have hli : (k : Int) < L := by omega
        obtain ⟨t, hgt⟩ : ∃ t, ts[k]? = some t := ⟨_, List.getElem?_eq_getElem (by omega)⟩
        obtain ⟨b1, o1, e1, c1⟩ := (T.stay bw).cell hgt
        obtain ⟨b2, o2, e2, c2⟩ := (T'.stay bw).cell hgt
        injection e1 with e1
        subst e1 e2
        have f1 := fun d os => cell_regrown c1 d os
        have f2 := fun d os => cell_regrown c2 d os
        go_upto_region 8 with fail
        refine wp_region_quiet_below (by kernel_rfl) (by kernel_rfl) ?_
        repeat (go_big_quiet_step (fail))
        refine wpQuiet_nil ?_
        intro _ hw'
        obtain ⟨⟨dq, osq⟩, hw''⟩ := hw'
        subst hw''
        have Bq := below_regrown wr dq osq
        replace bw := Below.on bw Bq
        clear Bq f1 f2 c1 c2
        simp only
        generalize grow (redrawn wr dq) osq = W5 at *
        go_wp2_with fail
        go_roundw
        case rel => exact ⟨k + 1, by omega, by go_num, bw⟩
        case measure => simp [intOf]; omega
      · have hkL : L = k := by omega
        have hli : ¬ (k : Int) < L := by omega
        go_wp2_with fail
        go_ret
        exact ⟨rfl, Below.on B bw⟩
end Go.Proofs.Ytbepapbfohfdkaa
