/- SpanGrows: of spans that have more no less is told. -/
import Derived.Test.YtbepapbfohfdkabPart2
namespace Go.Proofs.Ytbepapbfohfdkab
open Go.RowKit Go.Lib Go.Sort

set_option maxHeartbeats 1000000 in
theorem grown_any (a b : Sp) (w : World) : Calls Try.prog 5 #[sv a, sv b] w fun e w' => e = .returned (sv (joinS a b)) ∧ Below w.heap.size w w' := by
  obtain ⟨al, ah⟩ := a
  obtain ⟨bl, bh⟩ := b
  have hb := fun (o1 o2 o3 : Obj) => (Below.one (Below.one (Below.one (Below.refl _ w) o1) o2) o3 : Below w.heap.size w _)
  by_cases h1 : ah < al
  · rw [show joinS (al, ah) (bl, bh) = (bl, bh) from if_pos h1]
    go_enter Try.func5, Try.ntmps5
    go_wp2_with fail
    exact bodyPost_ret (v := sv (bl, bh)) (by simp [results, Try.results5, go_sem, *]) rfl ⟨rfl, hb _ _ _⟩
  · by_cases h2 : bh < bl
    · rw [show joinS (al, ah) (bl, bh) = (al, ah) by unfold joinS; rw [if_neg h1, if_pos h2]]
      go_enter Try.func5, Try.ntmps5
      go_wp2_with fail
      exact bodyPost_ret (v := sv (al, ah)) (by simp [results, Try.results5, go_sem, *]) rfl ⟨rfl, hb _ _ _⟩
    · rw [show joinS (al, ah) (bl, bh) = (min al bl, max ah bh) by unfold joinS; rw [if_neg h1, if_neg h2]]
      go_enter Try.func5, Try.ntmps5
      go_wp2_with fail
      all_goals exact bodyPost_ret (v := sv (min al bl, max ah bh)) (by simp [results, Try.results5, go_sem, *] <;> omega) rfl ⟨rfl, hb _ _ _⟩
set_option maxHeartbeats 1000000 in
theorem within_any (a b : Sp) (w : World) : Calls Try.prog 9 #[sv a, sv b] w fun e w' => e = .returned (.bool (wiB a b)) ∧ Below w.heap.size w w' := by
  obtain ⟨al, ah⟩ := a
  obtain ⟨bl, bh⟩ := b
  have hb := fun (o1 o2 : Obj) => (Below.one (Below.one (Below.refl _ w) o1) o2 : Below w.heap.size w _)
  have hu : undef = Value.tuple #[] := rfl
  by_cases h1 : ah < al
  · rw [show wiB (al, ah) (bl, bh) = true from decide_eq_true (.inl h1)]
    go_enter Try.func9, Try.ntmps9
    go_wp2_with fail
    go_ret
    exact ⟨rfl, hb _ _⟩
  · by_cases h2 : bl ≤ al
    · by_cases h3 : ah ≤ bh
      · rw [show wiB (al, ah) (bl, bh) = true from decide_eq_true (.inr ⟨h2, h3⟩)]
        go_enter Try.func9, Try.ntmps9
        go_wp2_with fail
        go_ret
        exact ⟨rfl, hb _ _⟩
      · rw [show wiB (al, ah) (bl, bh) = false from decide_eq_false (by simp only; omega)]
        go_enter Try.func9, Try.ntmps9
        go_wp2_with fail
        go_ret
        exact ⟨rfl, hb _ _⟩
    · rw [show wiB (al, ah) (bl, bh) = false from decide_eq_false (by simp only; omega)]
      go_enter Try.func9, Try.ntmps9
      go_wp2_with fail
      go_ret
      exact ⟨rfl, hb _ _⟩
theorem witT {a b : Sp} (h : wiB a b = true) (w : World) : Calls Try.prog 9 #[sv a, sv b] w fun e w' => e = .returned (.bool true) ∧ Below w.heap.size w w' := h ▸ within_any a b w
theorem grows_do {op : Int} {a b m y : Sp} (ha : a.Ok) (h : doB op a b = true) : doB op (joinS a m) (joinS b y) = true ∧ wiB (doR op a b) (doR op (joinS a m) (joinS b y)) = true := by
  unfold doB at h
  obtain ⟨x, hx⟩ := Option.isSome_iff_exists.1 h
  obtain ⟨z, hz, hw⟩ := do_grows (c := joinS a m) (d := joinS b y) ha join_in join_in hx
  rw [(do_some hx).1, (do_some hz).1, (do_some hz).2]
  exact ⟨rfl, hw⟩
theorem grows_meet {a b m y : Sp} (h : meetB a b = true) : meetB (joinS a m) (joinS b y) = true ∧ wiB (meetS a b) (meetS (joinS a m) (joinS b y)) = true := meet_grows join_in join_in h

set_option maxHeartbeats 4000000 in
theorem spanGrows_any (op : Int) (a b m y : Sp) (_ho : Nm op) (ha : a.Ok) (hb' : b.Ok) (hm : m.Ok) (hy : y.Ok) (w : World) : Calls Try.prog 3 #[.int .i64 op, sv a, sv b, sv m, sv y] w fun e w' => e = .returned (.bool true) ∧ Below w.heap.size w w' := by
  have HG1 := Hid.mk' fun w => grown_any a m w
  have HG2 := Hid.mk' fun w => grown_any b y w
  have HD1 := Hid.mk' fun w => do_any op a b ha hb' w
  have HD2 := Hid.mk' fun w => do_any op (joinS a m) (joinS b y) (join_ok ha hm) (join_ok hb' hy) w
  have HM1 := Hid.mk' fun w => meet_any a b w
  have HM2 := Hid.mk' fun w => meet_any (joinS a m) (joinS b y) w
  have HJ1 := Hid.mk' fun w => join_any a b w
  have HJ2 := Hid.mk' fun w => join_any (joinS a m) (joinS b y) w
  have HW1 := Hid.mk' (witT (join_grows (a := a) (b := b) (c := joinS a m) (d := joinS b y) join_in join_in))
  have HW2 := Hid.mk' (witT (join_wi a b))
  have HW3 := Hid.mk' (witT (join_wi2 a b))
  have KD := Hid.mk' (grows_do (op := op) (a := a) (b := b) (m := m) (y := y) ha)
  have KM := Hid.mk' (grows_meet (a := a) (b := b) (m := m) (y := y))
  have HF := Hid.mk' fixed_any
  clear ha hb' hm hy _ho
  generalize doB op (joinS a m) (joinS b y) = k2 at *
  generalize doR op (joinS a m) (joinS b y) = Y at *
  generalize meetB (joinS a m) (joinS b y) = n2 at *
  generalize meetS (joinS a m) (joinS b y) = N at *
  generalize joinS (joinS a m) (joinS b y) = J2 at *
  generalize joinS a m = C at *
  generalize joinS b y = D at *
  generalize joinS a b = J1 at *
  generalize doB op a b = k1 at *
  generalize doR op a b = X at *
  generalize meetB a b = n1 at *
  generalize meetS a b = M at *
  obtain ⟨al, ah⟩ := a
  obtain ⟨bl, bh⟩ := b
  obtain ⟨ml, mh⟩ := m
  obtain ⟨yl, yh⟩ := y
  obtain ⟨C1, C2⟩ := C
  obtain ⟨D1, D2⟩ := D
  obtain ⟨X1, X2⟩ := X
  obtain ⟨Y1, Y2⟩ := Y
  obtain ⟨M1, M2⟩ := M
  obtain ⟨N1, N2⟩ := N
  obtain ⟨j1, j2⟩ := J1
  obtain ⟨l1, l2⟩ := J2
  have hb := fun (o1 o2 o3 o4 : Obj) => (Below.one (Below.one (Below.one (Below.one (Below.refl _ w) o1) o2) o3) o4 : Below w.heap.size w _)
  go_enter Try.func3, Try.ntmps3
  go_upto_region 1 with fail
  have A := At.more (At.more (At.more (At.new w (al, ah)) (.cells #[.int .i64 bl, .int .i64 bh] 23)) (.cells #[.int .i64 ml, .int .i64 mh] 23)) (.cells #[.int .i64 yl, .int .i64 yh] 23)
  have B := At.more (At.more (At.new1 w (bl, bh) (.cells #[.int .i64 al, .int .i64 ah] 23)) (.cells #[.int .i64 ml, .int .i64 mh] 23)) (.cells #[.int .i64 yl, .int .i64 yh] 23)
  have E := At.more (At.new2 w (ml, mh) (.cells #[.int .i64 al, .int .i64 ah] 23) (.cells #[.int .i64 bl, .int .i64 bh] 23)) (.cells #[.int .i64 yl, .int .i64 yh] 23)
  have F := At.new3 w (yl, yh) (.cells #[.int .i64 al, .int .i64 ah] 23) (.cells #[.int .i64 bl, .int .i64 bh] 23) (.cells #[.int .i64 ml, .int .i64 mh] 23)
  have L := hb (.cells #[.int .i64 al, .int .i64 ah] 23) (.cells #[.int .i64 bl, .int .i64 bh] 23) (.cells #[.int .i64 ml, .int .i64 mh] 23) (.cells #[.int .i64 yl, .int .i64 yh] 23)
  simp only at A B E F
  clear hb
  generalize (((w.alloc (.cells #[.int .i64 al, .int .i64 ah] 23)).alloc (.cells #[.int .i64 bl, .int .i64 bh] 23)).alloc (.cells #[.int .i64 ml, .int .i64 mh] 23)).alloc (.cells #[.int .i64 yl, .int .i64 yh] 23) = W0 at *
  have zA0 := A.c0; have zA1 := A.c1; have zB0 := B.c0; have zB1 := B.c1; have zE0 := E.c0; have zE1 := E.c1; have zF0 := F.c0; have zF1 := F.c1
  go_upto_region 2 with (go_at_call 5; refine (HG1.out _).mono ?_; rintro e w2 ⟨rfl, hb2⟩)
  clear zA0 zA1 zB0 zB1 zE0 zE1 zF0 zF1
  replace A := A.on (.cells #[.int .i64 C1, .int .i64 C2] 23) hb2
  replace B := B.on (.cells #[.int .i64 C1, .int .i64 C2] 23) hb2
  replace E := E.on (.cells #[.int .i64 C1, .int .i64 C2] 23) hb2
  replace F := F.on (.cells #[.int .i64 C1, .int .i64 C2] 23) hb2
  have GC := At.new w2 (C1, C2)
  replace L := Below.one (Below.on L hb2) (.cells #[.int .i64 C1, .int .i64 C2] 23)
  simp only at GC
  clear hb2 HG1
  generalize w2.alloc (.cells #[.int .i64 C1, .int .i64 C2] 23) = W2 at *
  generalize w2.heap.size = g2 at *
  clear E
  have zA0 := A.c0; have zA1 := A.c1; have zB0 := B.c0; have zB1 := B.c1; have zF0 := F.c0; have zF1 := F.c1; have zGC0 := GC.c0; have zGC1 := GC.c1
  go_upto_region 3 with (go_at_call 5; refine (HG2.out _).mono ?_; rintro e w3 ⟨rfl, hb3⟩)
  clear zA0 zA1 zB0 zB1 zF0 zF1 zGC0 zGC1
  replace A := A.on (.cells #[.int .i64 D1, .int .i64 D2] 23) hb3
  replace B := B.on (.cells #[.int .i64 D1, .int .i64 D2] 23) hb3
  replace F := F.on (.cells #[.int .i64 D1, .int .i64 D2] 23) hb3
  replace GC := GC.on (.cells #[.int .i64 D1, .int .i64 D2] 23) hb3
  have GD := At.new w3 (D1, D2)
  replace L := Below.one (Below.on L hb3) (.cells #[.int .i64 D1, .int .i64 D2] 23)
  simp only at GD
  clear hb3 HG2
  generalize w3.alloc (.cells #[.int .i64 D1, .int .i64 D2] 23) = W3 at *
  generalize w3.heap.size = g3 at *
  clear F
  have zA0 := A.c0; have zA1 := A.c1; have zB0 := B.c0; have zB1 := B.c1; have zGC0 := GC.c0; have zGC1 := GC.c1; have zGD0 := GD.c0; have zGD1 := GD.c1
  go_upto_region 4 with (go_at_call 6; refine (HD1.out _).mono ?_; rintro e w4 ⟨rfl, hb4⟩)
  clear zA0 zA1 zB0 zB1 zGC0 zGC1 zGD0 zGD1
  replace A := A.on (.cells #[.int .i64 X1, .int .i64 X2] 23) hb4
  replace B := B.on (.cells #[.int .i64 X1, .int .i64 X2] 23) hb4
  replace GC := GC.on (.cells #[.int .i64 X1, .int .i64 X2] 23) hb4
  replace GD := GD.on (.cells #[.int .i64 X1, .int .i64 X2] 23) hb4
  have GX := At.new w4 (X1, X2)
  replace L := Below.one (Below.on L hb4) (.cells #[.int .i64 X1, .int .i64 X2] 23)
  simp only at GX
  clear hb4 HD1
  generalize w4.alloc (.cells #[.int .i64 X1, .int .i64 X2] 23) = W4 at *
  generalize w4.heap.size = g4 at *
  have zA0 := A.c0; have zA1 := A.c1; have zB0 := B.c0; have zB1 := B.c1; have zGC0 := GC.c0; have zGC1 := GC.c1; have zGD0 := GD.c0; have zGD1 := GD.c1; have zGX0 := GX.c0; have zGX1 := GX.c1
  go_upto_region 5 with (go_at_call 6; refine (HD2.out _).mono ?_; rintro e w5 ⟨rfl, hb5⟩)
  clear zA0 zA1 zB0 zB1 zGC0 zGC1 zGD0 zGD1 zGX0 zGX1
  replace A := A.on (.cells #[.int .i64 Y1, .int .i64 Y2] 23) hb5
  replace B := B.on (.cells #[.int .i64 Y1, .int .i64 Y2] 23) hb5
  replace GC := GC.on (.cells #[.int .i64 Y1, .int .i64 Y2] 23) hb5
  replace GD := GD.on (.cells #[.int .i64 Y1, .int .i64 Y2] 23) hb5
  replace GX := GX.on (.cells #[.int .i64 Y1, .int .i64 Y2] 23) hb5
  have GY := At.new w5 (Y1, Y2)
  replace L := Below.one (Below.on L hb5) (.cells #[.int .i64 Y1, .int .i64 Y2] 23)
  simp only at GY
  clear hb5 HD2
  generalize w5.alloc (.cells #[.int .i64 Y1, .int .i64 Y2] 23) = W5 at *
  generalize w5.heap.size = g5 at *
  have zA0 := A.c0; have zA1 := A.c1; have zB0 := B.c0; have zB1 := B.c1; have zGC0 := GC.c0; have zGC1 := GC.c1; have zGD0 := GD.c0; have zGD1 := GD.c1; have zGX0 := GX.c0; have zGX1 := GX.c1; have zGY0 := GY.c0; have zGY1 := GY.c1
  go_upto_region 6 with (go_at_call 7; refine (HM1.out _).mono ?_; rintro e w6 ⟨rfl, hb6⟩)
  clear zA0 zA1 zB0 zB1 zGC0 zGC1 zGD0 zGD1 zGX0 zGX1 zGY0 zGY1
  replace A := A.on (.cells #[.int .i64 M1, .int .i64 M2] 23) hb6
  replace B := B.on (.cells #[.int .i64 M1, .int .i64 M2] 23) hb6
  replace GC := GC.on (.cells #[.int .i64 M1, .int .i64 M2] 23) hb6
  replace GD := GD.on (.cells #[.int .i64 M1, .int .i64 M2] 23) hb6
  replace GX := GX.on (.cells #[.int .i64 M1, .int .i64 M2] 23) hb6
  replace GY := GY.on (.cells #[.int .i64 M1, .int .i64 M2] 23) hb6
  have GM := At.new w6 (M1, M2)
  replace L := Below.one (Below.on L hb6) (.cells #[.int .i64 M1, .int .i64 M2] 23)
  simp only at GM
  clear hb6 HM1
  generalize w6.alloc (.cells #[.int .i64 M1, .int .i64 M2] 23) = W6 at *
  generalize w6.heap.size = g6 at *
  have zA0 := A.c0; have zA1 := A.c1; have zB0 := B.c0; have zB1 := B.c1; have zGC0 := GC.c0; have zGC1 := GC.c1; have zGD0 := GD.c0; have zGD1 := GD.c1; have zGX0 := GX.c0; have zGX1 := GX.c1; have zGY0 := GY.c0; have zGY1 := GY.c1; have zGM0 := GM.c0; have zGM1 := GM.c1
  go_upto_region 7 with (go_at_call 7; refine (HM2.out _).mono ?_; rintro e w7 ⟨rfl, hb7⟩)
  clear zA0 zA1 zB0 zB1 zGC0 zGC1 zGD0 zGD1 zGX0 zGX1 zGY0 zGY1 zGM0 zGM1
  replace A := A.on (.cells #[.int .i64 N1, .int .i64 N2] 23) hb7
  replace B := B.on (.cells #[.int .i64 N1, .int .i64 N2] 23) hb7
  replace GC := GC.on (.cells #[.int .i64 N1, .int .i64 N2] 23) hb7
  replace GD := GD.on (.cells #[.int .i64 N1, .int .i64 N2] 23) hb7
  replace GX := GX.on (.cells #[.int .i64 N1, .int .i64 N2] 23) hb7
  replace GY := GY.on (.cells #[.int .i64 N1, .int .i64 N2] 23) hb7
  replace GM := GM.on (.cells #[.int .i64 N1, .int .i64 N2] 23) hb7
  have GN := At.new w7 (N1, N2)
  replace L := Below.one (Below.on L hb7) (.cells #[.int .i64 N1, .int .i64 N2] 23)
  simp only at GN
  clear hb7 HM2
  generalize w7.alloc (.cells #[.int .i64 N1, .int .i64 N2] 23) = W7 at *
  generalize w7.heap.size = g7 at *
  cases k1 <;> cases n1
  · have hu : undef = Value.tuple #[] := rfl
    clear KD KM
    go_upto_region 9 with (go_at_call 8; refine (HF.out _).mono ?_; rintro e w8 ⟨rfl, hb8⟩; have Aa := A.stay hb8; have zA0 := Aa.c0; have zA1 := Aa.c1; have Ba := B.stay hb8; have zB0 := Ba.c0; have zB1 := Ba.c1; have GCa := GC.stay hb8; have zGC0 := GCa.c0; have zGC1 := GCa.c1; have GDa := GD.stay hb8; have zGD0 := GDa.c0; have zGD1 := GDa.c1; have GXa := GX.stay hb8; have zGX0 := GXa.c0; have zGX1 := GXa.c1; have GYa := GY.stay hb8; have zGY0 := GYa.c0; have zGY1 := GYa.c1; have GMa := GM.stay hb8; have zGM0 := GMa.c0; have zGM1 := GMa.c1; have GNa := GN.stay hb8; have zGN0 := GNa.c0; have zGN1 := GNa.c1; have La := Below.on L hb8)
    have r0 := Aa.r0; have r1 := Aa.r1; have r2 := Ba.r0; have r3 := Ba.r1; have r4 := GCa.r0; have r5 := GCa.r1; have r6 := GDa.r0; have r7 := GDa.r1
    have LL := La
    refine wp_region_quiet_below (by kernel_rfl) (by kernel_rfl) ?_
    repeat (go_big_quiet_step (first | (go_at_call 10; with_reducible exact Calls.regrown_of (HJ1.out _)) | (go_at_call 10; with_reducible exact Calls.regrown_of (HJ2.out _)) | (go_at_call 9; with_reducible exact Calls.regrown_of (HW1.out _)) | (go_at_call 9; with_reducible exact Calls.regrown_of (HW2.out _)) | (go_at_call 9; with_reducible exact Calls.regrown_of (HW3.out _))))
    refine wpQuiet_nil ?_
    intro _ hw'
    obtain ⟨⟨dq, osq⟩, hw''⟩ := hw'
    subst hw''
    replace LL := Below.on LL (below_regrown w8 dq osq)
    clear r0 r1 r2 r3 r4 r5 r6 r7
    simp only
    generalize grow (redrawn w8 dq) osq = W9 at *
    go_wp2_with fail
    go_ret
    exact ⟨rfl, LL⟩
  · have hu : undef = Value.tuple #[] := rfl
    obtain ⟨rfl, hw2⟩ := KM.out rfl
    have HY := Hid.mk' (witT hw2)
    clear hw2
    clear KD KM
    go_upto_region 9 with (first | (go_at_call 8; refine (HF.out _).mono ?_; rintro e w8 ⟨rfl, hb8⟩; have Aa := A.stay hb8; have zA0 := Aa.c0; have zA1 := Aa.c1; have Ba := B.stay hb8; have zB0 := Ba.c0; have zB1 := Ba.c1; have GCa := GC.stay hb8; have zGC0 := GCa.c0; have zGC1 := GCa.c1; have GDa := GD.stay hb8; have zGD0 := GDa.c0; have zGD1 := GDa.c1; have GXa := GX.stay hb8; have zGX0 := GXa.c0; have zGX1 := GXa.c1; have GYa := GY.stay hb8; have zGY0 := GYa.c0; have zGY1 := GYa.c1; have GMa := GM.stay hb8; have zGM0 := GMa.c0; have zGM1 := GMa.c1; have GNa := GN.stay hb8; have zGN0 := GNa.c0; have zGN1 := GNa.c1; have La := Below.on L hb8) | (go_at_call_of 9 (Value.agg #[Value.int .i64 M1, Value.int .i64 M2]); refine (HY.out _).mono ?_; rintro e w10 ⟨rfl, hb10⟩; have Ac := Aa.stay hb10; have Bc := Ba.stay hb10; have GCc := GCa.stay hb10; have GDc := GDa.stay hb10; have Lc := Below.on La hb10))
    have r0 := Ac.r0; have r1 := Ac.r1; have r2 := Bc.r0; have r3 := Bc.r1; have r4 := GCc.r0; have r5 := GCc.r1; have r6 := GDc.r0; have r7 := GDc.r1
    have LL := Lc
    refine wp_region_quiet_below (by kernel_rfl) (by kernel_rfl) ?_
    repeat (go_big_quiet_step (first | (go_at_call 10; with_reducible exact Calls.regrown_of (HJ1.out _)) | (go_at_call 10; with_reducible exact Calls.regrown_of (HJ2.out _)) | (go_at_call 9; with_reducible exact Calls.regrown_of (HW1.out _)) | (go_at_call 9; with_reducible exact Calls.regrown_of (HW2.out _)) | (go_at_call 9; with_reducible exact Calls.regrown_of (HW3.out _))))
    refine wpQuiet_nil ?_
    intro _ hw'
    obtain ⟨⟨dq, osq⟩, hw''⟩ := hw'
    subst hw''
    replace LL := Below.on LL (below_regrown w10 dq osq)
    clear r0 r1 r2 r3 r4 r5 r6 r7
    simp only
    generalize grow (redrawn w10 dq) osq = W9 at *
    go_wp2_with fail
    go_ret
    exact ⟨rfl, LL⟩
  · have hu : undef = Value.tuple #[] := rfl
    obtain ⟨rfl, hw1⟩ := KD.out rfl
    have HX := Hid.mk' (witT hw1)
    clear hw1
    clear KD KM
    go_upto_region 9 with (first | (go_at_call 8; refine (HF.out _).mono ?_; rintro e w8 ⟨rfl, hb8⟩; have Aa := A.stay hb8; have zA0 := Aa.c0; have zA1 := Aa.c1; have Ba := B.stay hb8; have zB0 := Ba.c0; have zB1 := Ba.c1; have GCa := GC.stay hb8; have zGC0 := GCa.c0; have zGC1 := GCa.c1; have GDa := GD.stay hb8; have zGD0 := GDa.c0; have zGD1 := GDa.c1; have GXa := GX.stay hb8; have zGX0 := GXa.c0; have zGX1 := GXa.c1; have GYa := GY.stay hb8; have zGY0 := GYa.c0; have zGY1 := GYa.c1; have GMa := GM.stay hb8; have zGM0 := GMa.c0; have zGM1 := GMa.c1; have GNa := GN.stay hb8; have zGN0 := GNa.c0; have zGN1 := GNa.c1; have La := Below.on L hb8) | (go_at_call_of 9 (Value.agg #[Value.int .i64 X1, Value.int .i64 X2]); refine (HX.out _).mono ?_; rintro e w9 ⟨rfl, hb9⟩; have Ab := Aa.stay hb9; have yA0 := Ab.c0; have yA1 := Ab.c1; have Bb := Ba.stay hb9; have yB0 := Bb.c0; have yB1 := Bb.c1; have GCb := GCa.stay hb9; have yGC0 := GCb.c0; have yGC1 := GCb.c1; have GDb := GDa.stay hb9; have yGD0 := GDb.c0; have yGD1 := GDb.c1; have GMb := GMa.stay hb9; have yGM0 := GMb.c0; have yGM1 := GMb.c1; have GNb := GNa.stay hb9; have yGN0 := GNb.c0; have yGN1 := GNb.c1; have Lb := Below.on La hb9))
    have r0 := Ab.r0; have r1 := Ab.r1; have r2 := Bb.r0; have r3 := Bb.r1; have r4 := GCb.r0; have r5 := GCb.r1; have r6 := GDb.r0; have r7 := GDb.r1
    have LL := Lb
    refine wp_region_quiet_below (by kernel_rfl) (by kernel_rfl) ?_
    repeat (go_big_quiet_step (first | (go_at_call 10; with_reducible exact Calls.regrown_of (HJ1.out _)) | (go_at_call 10; with_reducible exact Calls.regrown_of (HJ2.out _)) | (go_at_call 9; with_reducible exact Calls.regrown_of (HW1.out _)) | (go_at_call 9; with_reducible exact Calls.regrown_of (HW2.out _)) | (go_at_call 9; with_reducible exact Calls.regrown_of (HW3.out _))))
    refine wpQuiet_nil ?_
    intro _ hw'
    obtain ⟨⟨dq, osq⟩, hw''⟩ := hw'
    subst hw''
    replace LL := Below.on LL (below_regrown w9 dq osq)
    clear r0 r1 r2 r3 r4 r5 r6 r7
    simp only
    generalize grow (redrawn w9 dq) osq = W9 at *
    go_wp2_with fail
    go_ret
    exact ⟨rfl, LL⟩
  · have hu : undef = Value.tuple #[] := rfl
    obtain ⟨rfl, hw1⟩ := KD.out rfl
    have HX := Hid.mk' (witT hw1)
    clear hw1
    obtain ⟨rfl, hw2⟩ := KM.out rfl
    have HY := Hid.mk' (witT hw2)
    clear hw2
    clear KD KM
    go_upto_region 9 with (first | (go_at_call 8; refine (HF.out _).mono ?_; rintro e w8 ⟨rfl, hb8⟩; have Aa := A.stay hb8; have zA0 := Aa.c0; have zA1 := Aa.c1; have Ba := B.stay hb8; have zB0 := Ba.c0; have zB1 := Ba.c1; have GCa := GC.stay hb8; have zGC0 := GCa.c0; have zGC1 := GCa.c1; have GDa := GD.stay hb8; have zGD0 := GDa.c0; have zGD1 := GDa.c1; have GXa := GX.stay hb8; have zGX0 := GXa.c0; have zGX1 := GXa.c1; have GYa := GY.stay hb8; have zGY0 := GYa.c0; have zGY1 := GYa.c1; have GMa := GM.stay hb8; have zGM0 := GMa.c0; have zGM1 := GMa.c1; have GNa := GN.stay hb8; have zGN0 := GNa.c0; have zGN1 := GNa.c1; have La := Below.on L hb8) | (go_at_call_of 9 (Value.agg #[Value.int .i64 X1, Value.int .i64 X2]); refine (HX.out _).mono ?_; rintro e w9 ⟨rfl, hb9⟩; have Ab := Aa.stay hb9; have yA0 := Ab.c0; have yA1 := Ab.c1; have Bb := Ba.stay hb9; have yB0 := Bb.c0; have yB1 := Bb.c1; have GCb := GCa.stay hb9; have yGC0 := GCb.c0; have yGC1 := GCb.c1; have GDb := GDa.stay hb9; have yGD0 := GDb.c0; have yGD1 := GDb.c1; have GMb := GMa.stay hb9; have yGM0 := GMb.c0; have yGM1 := GMb.c1; have GNb := GNa.stay hb9; have yGN0 := GNb.c0; have yGN1 := GNb.c1; have Lb := Below.on La hb9) | (go_at_call_of 9 (Value.agg #[Value.int .i64 M1, Value.int .i64 M2]); refine (HY.out _).mono ?_; rintro e w10 ⟨rfl, hb10⟩; have Ac := Ab.stay hb10; have Bc := Bb.stay hb10; have GCc := GCb.stay hb10; have GDc := GDb.stay hb10; have Lc := Below.on Lb hb10))
    have r0 := Ac.r0; have r1 := Ac.r1; have r2 := Bc.r0; have r3 := Bc.r1; have r4 := GCc.r0; have r5 := GCc.r1; have r6 := GDc.r0; have r7 := GDc.r1
    have LL := Lc
    refine wp_region_quiet_below (by kernel_rfl) (by kernel_rfl) ?_
    repeat (go_big_quiet_step (first | (go_at_call 10; with_reducible exact Calls.regrown_of (HJ1.out _)) | (go_at_call 10; with_reducible exact Calls.regrown_of (HJ2.out _)) | (go_at_call 9; with_reducible exact Calls.regrown_of (HW1.out _)) | (go_at_call 9; with_reducible exact Calls.regrown_of (HW2.out _)) | (go_at_call 9; with_reducible exact Calls.regrown_of (HW3.out _))))
    refine wpQuiet_nil ?_
    intro _ hw'
    obtain ⟨⟨dq, osq⟩, hw''⟩ := hw'
    subst hw''
    replace LL := Below.on LL (below_regrown w10 dq osq)
    clear r0 r1 r2 r3 r4 r5 r6 r7
    simp only
    generalize grow (redrawn w10 dq) osq = W9 at *
    go_wp2_with fail
    go_ret
    exact ⟨rfl, LL⟩
end Go.Proofs.Ytbepapbfohfdkab
