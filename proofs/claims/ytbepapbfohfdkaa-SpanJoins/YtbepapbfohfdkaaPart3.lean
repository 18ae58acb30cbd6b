/- The document's own Meet. -/
import Derived.Test.YtbepapbfohfdkaaPart2
namespace Go.Proofs.Ytbepapbfohfdkaa
open Go.RowKit Go.Lib Go.Sort

set_option maxHeartbeats 2000000 in
theorem rmeet_core (al ah bl bh m k : Int) (hm : m = max al bl) (hk : k = min ah bh) (w : World) : Calls Try.prog 10 #[sv (al, ah), sv (bl, bh)] w fun e w' => e = .returned (.tuple #[sv (if k < m then (0, 0) else (m, k)), .bool (!decide (k < m))]) ∧ Below w.heap.size w w' := by
  have HL : Hid (∀ w, Calls Try.prog 29 #[.int .i64 ah, .int .i64 bh] w fun e w' => e = .returned (.int .i64 k) ∧ w' = w) := fun w => hk ▸ lesser_any ah bh w
  have HG : Hid (∀ w, Calls Try.prog 28 #[.int .i64 al, .int .i64 bl] w fun e w' => e = .returned (.int .i64 m) ∧ w' = w) := fun w => hm ▸ greater_any al bl w
  have hb := fun (o1 o2 o3 : Obj) => (Below.one (Below.one (Below.one (Below.refl _ w) o1) o2) o3 : Below w.heap.size w _)
  clear hm hk
  have HN : Hid (∀ w, Calls Try.prog 30 #[.agg #[.int .i64 m, .int .i64 k]] w fun e w' => e = .returned (.bool (decide (k < m))) ∧ Below w.heap.size w w') := fun w => none_any (m, k) w
  go_enter Try.func10, Try.ntmps10
  go_upto_region 1 with fail
  have A0 := At.more (At.more (At.new w (al, ah)) (.cells #[.int .i64 bl, .int .i64 bh] 23)) (.cells #[.int .i64 0, .int .i64 0] 23)
  have A1 := At.more (At.new1 w (bl, bh) (.cells #[.int .i64 al, .int .i64 ah] 23)) (.cells #[.int .i64 0, .int .i64 0] 23)
  have A2 := At.new2 w (0, 0) (.cells #[.int .i64 al, .int .i64 ah] 23) (.cells #[.int .i64 bl, .int .i64 bh] 23)
  have B0 := hb (.cells #[.int .i64 al, .int .i64 ah] 23) (.cells #[.int .i64 bl, .int .i64 bh] 23) (.cells #[.int .i64 0, .int .i64 0] 23)
  have hsz : w.heap.size + 1 + 1 < (((w.alloc (.cells #[.int .i64 al, .int .i64 ah] 23)).alloc (.cells #[.int .i64 bl, .int .i64 bh] 23)).alloc (.cells #[.int .i64 0, .int .i64 0] 23)).heap.size := by simp
  simp only at A0 A1 A2
  clear hb
  generalize ((w.alloc (.cells #[.int .i64 al, .int .i64 ah] 23)).alloc (.cells #[.int .i64 bl, .int .i64 bh] 23)).alloc (.cells #[.int .i64 0, .int .i64 0] 23) = W at *
  have x0 := A0.c0; have x1 := A0.c1; have y0 := A1.c0; have y1 := A1.c1
  simp only at x0 x1 y0 y1
  have lA0 := A0.lt; have lA1 := A1.lt
  go_region_held3 (fun w' => w'.cell? ⟨w.heap.size, 0, none⟩ = some (.int .i64 al) ∧ w'.cell? ⟨w.heap.size, 1, none⟩ = some (.int .i64 ah) ∧ w'.cell? ⟨w.heap.size + 1, 0, none⟩ = some (.int .i64 bl) ∧ w'.cell? ⟨w.heap.size + 1, 1, none⟩ = some (.int .i64 bh)) (go_keep) (first | (go_at_call 29; refine (HL.out _).mono ?_; rintro e w5 ⟨rfl, hw5⟩; rw [hw5]; clear hw5) | (go_at_call 28; refine (HG.out _).mono ?_; rintro e w5 ⟨rfl, hw5⟩; rw [hw5]; clear hw5))
  all_goals
    have D2 := (A2.more (.cells #[.int .i64 m, .int .i64 k] 23)).stay (Below.drew (Below.refl _ _))
    have D3 := (At.new W (m, k)).stay (Below.drew (Below.refl _ _))
    have BB := Below.drew (Below.one B0 (.cells #[.int .i64 m, .int .i64 k] 23))
    simp only at D3
    clear x0 x1 y0 y1 lA0 lA1 HL HG A0 A1 A2 B0
    generalize (W.alloc (.cells #[.int .i64 m, .int .i64 k] 23)).drew = W2 at *
    generalize W.heap.size = g at *
    have z0 := D3.c0; have z1 := D3.c1
    by_cases hkm : k < m
    · rw [decide_eq_true hkm] at HN
      go_wp2_with (go_at_call 30; refine (HN.out _).mono ?_; rintro e w6 ⟨rfl, hb6⟩; have E2 := D2.stay hb6; have s0 := E2.c0; have s1 := E2.c1; have s2 := E2.f0; have s3 := E2.f1)
      exact bodyPost_ret (v := .tuple #[sv (0, 0), .bool false]) (by simp [results, Try.results10, go_sem, *]) rfl ⟨rfl, Below.put (Below.on BB hb6) (by omega) _ _⟩
    · rw [decide_eq_false hkm] at HN
      go_wp2_with (go_at_call 30; refine (HN.out _).mono ?_; rintro e w6 ⟨rfl, hb6⟩; have E2 := D2.stay hb6; have s0 := E2.c0; have s1 := E2.c1; have s2 := E2.f0; have s3 := E2.f1; have E3 := D3.stay hb6; have p0 := E3.c0; have p1 := E3.c1)
      exact bodyPost_ret (v := .tuple #[sv (m, k), .bool true]) (by simp [results, Try.results10, go_sem, *]) rfl ⟨rfl, Below.put (Below.on BB hb6) (by omega) _ _⟩
theorem rmeet_any (a b : Sp) (w : World) : Calls Try.prog 10 #[sv a, sv b] w fun e w' => e = .returned (.tuple #[sv (meetS a b), .bool (meetB a b)]) ∧ Below w.heap.size w w' := by
  have := rmeet_core a.1 a.2 b.1 b.2 _ _ rfl rfl w
  have e1 : (if min a.2 b.2 < max a.1 b.1 then (0, 0) else (max a.1 b.1, min a.2 b.2)) = meetS a b := by
    unfold meetS
    by_cases h : min a.2 b.2 < max a.1 b.1
    · rw [if_pos h, if_neg (by omega)]
    · rw [if_neg h, if_pos (by omega)]
  have e2 : (!decide (min a.2 b.2 < max a.1 b.1)) = meetB a b := by
    unfold meetB
    by_cases h : min a.2 b.2 < max a.1 b.1
    · rw [decide_eq_true h, decide_eq_false (by omega)]; rfl
    · rw [decide_eq_false h, decide_eq_true (by omega)]; rfl
  rw [e1, e2] at this
  exact this
end Go.Proofs.Ytbepapbfohfdkaa

/- SpanJoins: All, Has, Join, Meet and Length against the document's answers. -/
namespace Go.Proofs.Ytbepapbfohfdkaa
open Go.RowKit Go.Lib Go.Sort

set_option maxHeartbeats 2000000 in
theorem spanJoins_any (a b : Sp) (n : Int) (ha : a.Ok) (hb' : b.Ok) (_hn : Nm n) (w : World) : Calls Try.prog 3 #[sv a, sv b, .int .i64 n] w fun e w' => e = .returned (.bool true) ∧ Below w.heap.size w w' := by
  have HM := Hid.mk' fun w => meet_any a b w
  have HM' := Hid.mk' fun w => rmeet_any a b w
  have HJ := Hid.mk' fun w => join_any a b w
  have HJ' := Hid.mk' fun w => rjoin_any a b w
  have HH := Hid.mk' fun w => has_any a n w
  have HH' := Hid.mk' fun w => rhas_any a n w
  have HL := Hid.mk' fun w => length_any a b ha hb' w
  have HL' := Hid.mk' fun w => rlength_any a b ha hb' w
  have HA := Hid.mk' allV
  have HA' := Hid.mk' rallV
  have HF := Hid.mk' fixed_any
  obtain ⟨al, ah⟩ := a
  obtain ⟨bl, bh⟩ := b
  generalize meetB (al, ah) (bl, bh) = mB at *
  generalize meetS (al, ah) (bl, bh) = mS at *
  generalize joinS (al, ah) (bl, bh) = jS at *
  generalize hasB (al, ah) n = hB at *
  generalize lenN (al, ah) (bl, bh) = lN at *
  obtain ⟨m1, m2⟩ := mS
  obtain ⟨j1, j2⟩ := jS
  clear ha hb' _hn
  have hb := fun (o1 o2 : Obj) => (Below.one (Below.one (Below.refl _ w) o1) o2 : Below w.heap.size w _)
  have hg := eqGuard_s
  have q1 := fun w => equalIn_T (rfl : ((-9223372036854775808 : Int), (9223372036854775807 : Int)) = (-9223372036854775808, 9223372036854775807)) w
  have q2 := fun w => equalIn_T (rfl : (j1, j2) = (j1, j2)) w
  have q3 := fun w => equalIn_T (rfl : (m1, m2) = (m1, m2)) w
  go_enter Try.func3, Try.ntmps3
  go_upto_region 2 with (go_at_call 9; refine (HM.out _).mono ?_; rintro e w1 ⟨rfl, hb1⟩)
  have A0 := (At.stay (At.more (At.new w (al, ah)) _) hb1).more (.cells #[.int .i64 m1, .int .i64 m2] 23)
  have A1 := (At.stay (At.new1 w (bl, bh) _) hb1).more (.cells #[.int .i64 m1, .int .i64 m2] 23)
  have A2 := At.new w1 (m1, m2)
  have B := Below.one (Below.on (hb _ _) hb1) (.cells #[.int .i64 m1, .int .i64 m2] 23)
  simp only at A2
  clear hb hb1 HM
  generalize w1.alloc (.cells #[.int .i64 m1, .int .i64 m2] 23) = W1 at *
  generalize w1.heap.size = g1 at *
  have x0 := A0.c0; have x1 := A0.c1; have y0 := A1.c0; have y1 := A1.c1
  go_upto_region 3 with (go_at_call 10; refine (HM'.out _).mono ?_; rintro e w2 ⟨rfl, hb2⟩)
  clear x0 x1 y0 y1
  replace A0 := A0.on (.cells #[.int .i64 m1, .int .i64 m2] 23) hb2
  replace A1 := A1.on (.cells #[.int .i64 m1, .int .i64 m2] 23) hb2
  replace A2 := A2.on (.cells #[.int .i64 m1, .int .i64 m2] 23) hb2
  have A3 := At.new w2 (m1, m2)
  replace B := Below.one (Below.on B hb2) (.cells #[.int .i64 m1, .int .i64 m2] 23)
  simp only at A3
  clear hb2 HM'
  generalize w2.alloc (.cells #[.int .i64 m1, .int .i64 m2] 23) = W2 at *
  generalize w2.heap.size = g2 at *
  have x0 := A0.r0; have x1 := A0.r1; have y0 := A1.r0; have y1 := A1.r1; have u0 := A2.r0; have u1 := A2.r1; have v0 := A3.r0; have v1 := A3.r1
  refine wp_region_quiet_below (by kernel_rfl) (by kernel_rfl) ?_
  repeat (go_big_quiet_step (first | (go_at_call 11; with_reducible exact Calls.regrown_of (HF.out _)) | (go_at_call 12; with_reducible exact Calls.regrown_of (HA.out _)) | (go_at_call 13; with_reducible exact Calls.regrown_of (HA'.out _)) | (go_at_call 14; with_reducible exact Calls.regrown_of (HH.out _)) | (go_at_call 15; with_reducible exact Calls.regrown_of (HH'.out _)) | (go_at_call 16; with_reducible exact Calls.regrown_of (HJ.out _)) | (go_at_call 17; with_reducible exact Calls.regrown_of (HJ'.out _)) | (go_at_call 18; with_reducible exact Calls.regrown_of (HL.out _)) | (go_at_call 19; with_reducible exact Calls.regrown_of (HL'.out _))))
  refine wpQuiet_nil ?_
  intro _ hw'
  obtain ⟨⟨dq, osq⟩, hw''⟩ := hw'
  subst hw''
  replace B := Below.on B (below_regrown W2 dq osq)
  clear x0 x1 y0 y1 u0 u1 v0 v1
  simp only
  generalize grow (redrawn W2 dq) osq = W3 at *
  go_wp2_with fail
  go_ret
  exact ⟨rfl, B⟩
end Go.Proofs.Ytbepapbfohfdkaa
