/- SpanGrows: of spans that have more no less is told. -/
import Derived.Test.YtbepapbfohfdkabPart2
import Derived.Test.YtbepapbfohfdkabPart1
namespace Go.Proofs.Ytbepapbfohfdkab
open Go.RowKit Go.Lib Go.Sort

set_option maxHeartbeats 1000000 in
theorem grown_any (a b : Sp) (w : World) : Calls Try.prog 5 #[sv a, sv b] w fun e w' => e = .returned (sv (joinS a b)) ∧ Below w.heap.size w w' := by
  obtain ⟨al, ah⟩ := a
  obtain ⟨bl, bh⟩ := b
  have hb := fun (o1 o2 o3 : Obj) => (Below.one (Below.one (Below.one (Below.refl _ w) o1) o2) o3 : Below w.heap.size w _)
  by_cases h1 : ah < al
  · rw [show joinS (al, ah) (bl, bh) = (bl, bh) from if_pos h1]
    go_enter Try.func5, Try.ntmps5
    go_wp2_with fail
    exact bodyPost_ret (v := sv (bl, bh)) (by simp [results, Try.results5, go_sem, *]) rfl ⟨rfl, hb _ _ _⟩
  · by_cases h2 : bh < bl
    · rw [show joinS (al, ah) (bl, bh) = (al, ah) by unfold joinS; rw [if_neg h1, if_pos h2]]
      go_enter Try.func5, Try.ntmps5
      go_wp2_with fail
      exact bodyPost_ret (v := sv (al, ah)) (by simp [results, Try.results5, go_sem, *]) rfl ⟨rfl, hb _ _ _⟩
    · rw [show joinS (al, ah) (bl, bh) = (min al bl, max ah bh) by unfold joinS; rw [if_neg h1, if_neg h2]]
      go_enter Try.func5, Try.ntmps5
      go_wp2_with fail
      all_goals exact bodyPost_ret (v := sv (min al bl, max ah bh)) (by simp [results, Try.results5, go_sem, *] <;> omega) rfl ⟨rfl, hb _ _ _⟩
set_option maxHeartbeats 1000000 in
theorem within_any (a b : Sp) (w : World) : Calls Try.prog 9 #[sv a, sv b] w fun e w' => e = .returned (.bool (wiB a b)) ∧ Below w.heap.size w w' := by
  obtain ⟨al, ah⟩ := a
  obtain ⟨bl, bh⟩ := b
  have hb := fun (o1 o2 : Obj) => (Below.one (Below.one (Below.refl _ w) o1) o2 : Below w.heap.size w _)
  have hu : undef = Value.tuple #[] := rfl
  by_cases h1 : ah < al
  · rw [show wiB (al, ah) (bl, bh) = true from decide_eq_true (.inl h1)]
    go_enter Try.func9, Try.ntmps9
    go_wp2_with fail
    go_ret
    exact ⟨rfl, hb _ _⟩
  · by_cases h2 : bl ≤ al
    · by_cases h3 : ah ≤ bh
      · rw [show wiB (al, ah) (bl, bh) = true from decide_eq_true (.inr ⟨h2, h3⟩)]
        go_enter Try.func9, Try.ntmps9
        go_wp2_with fail
        go_ret
        exact ⟨rfl, hb _ _⟩
      · rw [show wiB (al, ah) (bl, bh) = false from decide_eq_false (by simp only; omega)]
        go_enter Try.func9, Try.ntmps9
        go_wp2_with fail
        go_ret
        exact ⟨rfl, hb _ _⟩
    · rw [show wiB (al, ah) (bl, bh) = false from decide_eq_false (by simp only; omega)]
      go_enter Try.func9, Try.ntmps9
      go_wp2_with fail
      go_ret
      exact ⟨rfl, hb _ _⟩
theorem witT {a b : Sp} (h : wiB a b = true) (w : World) : Calls Try.prog 9 #[sv a, sv b] w fun e w' => e = .returned (.bool true) ∧ Below w.heap.size w w' := h ▸ within_any a b w
theorem grows_do {op : Int} {a b m y : Sp} (ha : a.Ok) (h : doB op a b = true) : doB op (joinS a m) (joinS b y) = true ∧ wiB (doR op a b) (doR op (joinS a m) (joinS b y)) = true := by
  unfold doB at h
  obtain ⟨x, hx⟩ := Option.isSome_iff_exists.1 h
  obtain ⟨z, hz, hw⟩ := do_grows (c := joinS a m) (d := joinS b y) ha join_in join_in hx
  rw [(do_some hx).1, (do_some hz).1, (do_some hz).2]
  exact ⟨rfl, hw⟩
theorem grows_meet {a b m y : Sp} (h : meetB a b = true) : meetB (joinS a m) (joinS b y) = true ∧ wiB (meetS a b) (meetS (joinS a m) (joinS b y)) = true := meet_grows join_in join_in h

set_option maxHeartbeats 4000000 in
theorem spanGrows_any (op : Int) (a b m y : Sp) (_ho : Nm op) (ha : a.Ok) (hb' : b.Ok) (hm : m.Ok) (hy : y.Ok) (w : World) : Calls Try.prog 3 #[.int .i64 op, sv a, sv b, sv m, sv y] w fun e w' => e = .returned (.bool true) ∧ Below w.heap.size w w' := by
  have HG1 := Hid.mk' fun w => grown_any a m w
  have HG2 := Hid.mk' fun w => grown_any b y w
  have HD1 := Hid.mk' fun w => do_any op a b ha hb' w
  have HD2 := Hid.mk' fun w => do_any op (joinS a m) (joinS b y) (join_ok ha hm) (join_ok hb' hy) w
  have HM1 := Hid.mk' fun w => meet_any a b w
  have HM2 := Hid.mk' fun w => meet_any (joinS a m) (joinS b y) w
  have HJ1 := Hid.mk' fun w => join_any a b w
  have HJ2 := Hid.mk' fun w => join_any (joinS a m) (joinS b y) w
  have HW1 := Hid.mk' (witT (join_grows (a := a) (b := b) (c := joinS a m) (d := joinS b y) join_in join_in))
  have HW2 := Hid.mk' (witT (join_wi a b))
  have HW3 := Hid.mk' (witT (join_wi2 a b))
  have KD := Hid.mk' (grows_do (op := op) (a := a) (b := b) (m := m) (y := y) ha)
  have KM := Hid.mk' (grows_meet (a := a) (b := b) (m := m) (y := y))
  have HF := Hid.mk' fixed_any
  clear ha hb' hm hy _ho
  generalize doB op (joinS a m) (joinS b y) = k2 at *
  generalize doR op (joinS a m) (joinS b y) = Y at *
  generalize meetB (joinS a m) (joinS b y) = n2 at *
  generalize meetS (joinS a m) (joinS b y) = N at *
  generalize joinS (joinS a m) (joinS b y) = J2 at *
  generalize joinS a m = C at *
  generalize joinS b y = D at *
  generalize joinS a b = J1 at *
  generalize doB op a b = k1 at *
  generalize doR op a b = X at *
  generalize meetB a b = n1 at *
  generalize meetS a b = M at *
  obtain ⟨al, ah⟩ := a
  obtain ⟨bl, bh⟩ := b
  obtain ⟨ml, mh⟩ := m
  obtain ⟨yl, yh⟩ := y
  obtain ⟨C1, C2⟩ := C
  obtain ⟨D1, D2⟩ := D
  obtain ⟨X1, X2⟩ := X
  obtain ⟨Y1, Y2⟩ := Y
  obtain ⟨M1, M2⟩ := M
  obtain ⟨N1, N2⟩ := N
  obtain ⟨j1, j2⟩ := J1
  obtain ⟨l1, l2⟩ := J2
  have hb := fun (o1 o2 o3 o4 : Obj) => (Below.one (Below.one (Below.one (Below.one (Below.refl _ w) o1) o2) o3) o4 : Below w.heap.size w _)
  go_enter Try.func3, Try.ntmps3
  go_upto_region 1 with fail
  have A := At.more (At.more (At.more (At.new w (al, ah)) (.cells #[.int .i64 bl, .int .i64 bh] 23)) (.cells #[.int .i64 ml, .int .i64 mh] 23)) (.cells #[.int .i64 yl, .int .i64 yh] 23)
  have B := At.more (At.more (At.new1 w (bl, bh) (.cells #[.int .i64 al, .int .i64 ah] 23)) (.cells #[.int .i64 ml, .int .i64 mh] 23)) (.cells #[.int .i64 yl, .int .i64 yh] 23)
  have E := At.more (At.new2 w (ml, mh) (.cells #[.int .i64 al, .int .i64 ah] 23) (.cells #[.int .i64 bl, .int .i64 bh] 23)) (.cells #[.int .i64 yl, .int .i64 yh] 23)
  have F := At.new3 w (yl, yh) (.cells #[.int .i64 al, .int .i64 ah] 23) (.cells #[.int .i64 bl, .int .i64 bh] 23) (.cells #[.int .i64 ml, .int .i64 mh] 23)
  have L := hb (.cells #[.int .i64 al, .int .i64 ah] 23) (.cells #[.int .i64 bl, .int .i64 bh] 23) (.cells #[.int .i64 ml, .int .i64 mh] 23) (.cells #[.int .i64 yl, .int .i64 yh] 23)
  simp only at A B E F
  clear hb
  generalize (((w.alloc (.cells #[.int .i64 al, .int .i64 ah] 23)).alloc (.cells #[.int .i64 bl, .int .i64 bh] 23)).alloc (.cells #[.int .i64 ml, .int .i64 mh] 23)).alloc (.cells #[.int .i64 yl, .int .i64 yh] 23) = W0 at *
  have zA0 := A.c0; have zA1 := A.c1; have zB0 := B.c0; have zB1 := B.c1; have zE0 := E.c0; have zE1 := E.c1; have zF0 := F.c0; have zF1 := F.c1
  go_upto_region 2 with (go_at_call 5; refine (HG1.out _).mono ?_; rintro e w2 ⟨rfl, hb2⟩)
  clear zA0 zA1 zB0 zB1 zE0 zE1 zF0 zF1
  replace A := A.on (.cells #[.int .i64 C1, .int .i64 C2] 23) hb2
  replace B := B.on (.cells #[.int .i64 C1, .int .i64 C2] 23) hb2
  replace E := E.on (.cells #[.int .i64 C1, .int .i64 C2] 23) hb2
  replace F := F.on (.cells #[.int .i64 C1, .int .i64 C2] 23) hb2
  have GC := At.new w2 (C1, C2)
  replace L := Below.one (Below.on L hb2) (.cells #[.int .i64 C1, .int .i64 C2] 23)
  simp only at GC
  clear hb2 HG1
  generalize w2.alloc (.cells #[.int .i64 C1, .int .i64 C2] 23) = W2 at *
  generalize w2.heap.size = g2 at *
  clear E
  have zA0 := A.c0; have zA1 := A.c1; have zB0 := B.c0; have zB1 := B.c1; have zF0 := F.c0; have zF1 := F.c1; have zGC0 := GC.c0; have zGC1 := GC.c1
  go_upto_region 3 with (go_at_call 5; refine (HG2.out _).mono ?_; rintro e w3 ⟨rfl, hb3⟩)
  clear zA0 zA1 zB0 zB1 zF0 zF1 zGC0 zGC1
  replace A := A.on (.cells #[.int .i64 D1, .int .i64 D2] 23) hb3
  replace B := B.on (.cells #[.int .i64 D1, .int .i64 D2] 23) hb3
  replace F := F.on (.cells #[.int .i64 D1, .int .i64 D2] 23) hb3
  replace GC := GC.on (.cells #[.int .i64 D1, .int .i64 D2] 23) hb3
  have GD := At.new w3 (D1, D2)
  replace L := Below.one (Below.on L hb3) (.cells #[.int .i64 D1, .int .i64 D2] 23)
  simp only at GD
  clear hb3 HG2
  generalize w3.alloc (.cells #[.int .i64 D1, .int .i64 D2] 23) = W3 at *
  generalize w3.heap.size = g3 at *
  clear F
  have zA0 := A.c0; have zA1 := A.c1; have zB0 := B.c0; have zB1 := B.c1; have zGC0 := GC.c0; have zGC1 := GC.c1; have zGD0 := GD.c0; have zGD1 := GD.c1
  go_upto_region 4 with (go_at_call 6; refine (HD1.out _).mono ?_; rintro e w4 ⟨rfl, hb4⟩)
  clear zA0 zA1 zB0 zB1 zGC0 zGC1 zGD0 zGD1
  replace A := A.on (.cells #[.int .i64 X1, .int .i64 X2] 23) hb4
  replace B := B.on (.cells #[.int .i64 X1, .int .i64 X2] 23) hb4
  replace GC := GC.on (.cells #[.int .i64 X1, .int .i64 X2] 23) hb4
  replace GD := GD.on (.cells #[.int .i64 X1, .int .i64 X2] 23) hb4
  have GX := At.new w4 (X1, X2)
  replace L := Below.one (Below.on L hb4) (.cells #[.int .i64 X1, .int .i64 X2] 23)
  simp only at GX
  clear hb4 HD1
  generalize w4.alloc (.cells #[.int .i64 X1, .int .i64 X2] 23) = W4 at *
  generalize w4.heap.size = g4 at *
  have zA0 := A.c0; have zA1 := A.c1; have zB0 := B.c0; have zB1 := B.c1; have zGC0 := GC.c0; have zGC1 := GC.c1; have zGD0 := GD.c0; have zGD1 := GD.c1; have zGX0 := GX.c0; have zGX1 := GX.c1
  go_upto_region 5 with (go_at_call 6; refine (HD2.out _).mono ?_; rintro e w5 ⟨rfl, hb5⟩)
  clear zA0 zA1 zB0 zB1 zGC0 zGC1 zGD0 zGD1 zGX0 zGX1
  replace A := A.on (.cells #[.int .i64 Y1, .int .i64 Y2] 23) hb5
  replace B := B.on (.cells #[.int .i64 Y1, .int .i64 Y2] 23) hb5
  replace GC := GC.on (.cells #[.int .i64 Y1, .int .i64 Y2] 23) hb5
  replace GD := GD.on (.cells #[.int .i64 Y1, .int .i64 Y2] 23) hb5
  replace GX := GX.on (.cells #[.int .i64 Y1, .int .i64 Y2] 23) hb5
  have GY := At.new w5 (Y1, Y2)
  replace L := Below.one (Below.on L hb5) (.cells #[.int .i64 Y1, .int .i64 Y2] 23)
  simp only at GY
  clear hb5 HD2
  generalize w5.alloc (.cells #[.int .i64 Y1, .int .i64 Y2] 23) = W5 at *
  generalize w5.heap.size = g5 at *
  have zA0 := A.c0; have zA1 := A.c1; have zB0 := B.c0; have zB1 := B.c1; have zGC0 := GC.c0; have zGC1 := GC.c1; have zGD0 := GD.c0; have zGD1 := GD.c1; have zGX0 := GX.c0; have zGX1 := GX.c1; have zGY0 := GY.c0; have zGY1 := GY.c1
  go_upto_region 6 with (go_at_call 7; refine (HM1.out _).mono ?_; rintro e w6 ⟨rfl, hb6⟩)
  clear zA0 zA1 zB0 zB1 zGC0 zGC1 zGD0 zGD1 zGX0 zGX1 zGY0 zGY1
  replace A := A.on (.cells #[.int .i64 M1, .int .i64 M2] 23) hb6
  replace B := B.on (.cells #[.int .i64 M1, .int .i64 M2] 23) hb6
  replace GC := GC.on (.cells #[.int .i64 M1, .int .i64 M2] 23) hb6
  replace GD := GD.on (.cells #[.int .i64 M1, .int .i64 M2] 23) hb6
  replace GX := GX.on (.cells #[.int .i64 M1, .int .i64 M2] 23) hb6
  replace GY := GY.on (.cells #[.int .i64 M1, .int .i64 M2] 23) hb6
  have GM := At.new w6 (M1, M2)
  replace L := Below.one (Below.on L hb6) (.cells #[.int .i64 M1, .int .i64 M2] 23)
  simp only at GM
  clear hb6 HM1
  generalize w6.alloc (.cells #[.int .i64 M1, .int .i64 M2] 23) = W6 at *
  generalize w6.heap.size = g6 at *
  have zA0 := A.c0; have zA1 := A.c1; have zB0 := B.c0; have zB1 := B.c1; have zGC0 := GC.c0; have zGC1 := GC.c1; have zGD0 := GD.c0; have zGD1 := GD.c1; have zGX0 := GX.c0; have zGX1 := GX.c1; have zGY0 := GY.c0; have zGY1 := GY.c1; have zGM0 := GM.c0; have zGM1 := GM.c1
  go_upto_region 7 with (go_at_call 7; refine (HM2.out _).mono ?_; rintro e w7 ⟨rfl, hb7⟩)
  clear zA0 zA1 zB0 zB1 zGC0 zGC1 zGD0 zGD1 zGX0 zGX1 zGY0 zGY1 zGM0 zGM1
  replace A := A.on (.cells #[.int .i64 N1, .int .i64 N2] 23) hb7
  replace B := B.on (.cells #[.int .i64 N1, .int .i64 N2] 23) hb7
  replace GC := GC.on (.cells #[.int .i64 N1, .int .i64 N2] 23) hb7
  replace GD := GD.on (.cells #[.int .i64 N1, .int .i64 N2] 23) hb7
  replace GX := GX.on (.cells #[.int .i64 N1, .int .i64 N2] 23) hb7
  replace GY := GY.on (.cells #[.int .i64 N1, .int .i64 N2] 23) hb7
  replace GM := GM.on (.cells #[.int .i64 N1, .int .i64 N2] 23) hb7
  have GN := At.new w7 (N1, N2)
  replace L := Below.one (Below.on L hb7) (.cells #[.int .i64 N1, .int .i64 N2] 23)
  simp only at GN
  clear hb7 HM2
  generalize w7.alloc (.cells #[.int .i64 N1, .int .i64 N2] 23) = W7 at *
  generalize w7.heap.size = g7 at *
  cases k1 <;> cases n1
  · have hu : undef = Value.tuple #[] := rfl
    clear KD KM
    go_upto_region 9 with (go_at_call 8; refine (HF.out _).mono ?_; rintro e w8 ⟨rfl, hb8⟩; have Aa := A.stay hb8; have zA0 := Aa.c0; have zA1 := Aa.c1; have Ba := B.stay hb8; have zB0 := Ba.c0; have zB1 := Ba.c1; have GCa := GC.stay hb8; have zGC0 := GCa.c0; have zGC1 := GCa.c1; have GDa := GD.stay hb8; have zGD0 := GDa.c0; have zGD1 := GDa.c1; have GXa := GX.stay hb8; have zGX0 := GXa.c0; have zGX1 := GXa.c1; have GYa := GY.stay hb8; have zGY0 := GYa.c0; have zGY1 := GYa.c1; have GMa := GM.stay hb8; have zGM0 := GMa.c0; have zGM1 := GMa.c1; have GNa := GN.stay hb8; have zGN0 := GNa.c0; have zGN1 := GNa.c1; have La := Below.on L hb8)
    have r0 := Aa.r0; have r1 := Aa.r1; have r2 := Ba.r0; have r3 := Ba.r1; have r4 := GCa.r0; have r5 := GCa.r1; have r6 := GDa.r0; have r7 := GDa.r1
    have LL := La
    refine wp_region_quiet_below (by kernel_rfl) (by kernel_rfl) ?_
    repeat (go_big_quiet_step (first | (go_at_call 10; with_reducible exact Calls.regrown_of (HJ1.out _)) | (go_at_call 10; with_reducible exact Calls.regrown_of (HJ2.out _)) | (go_at_call 9; with_reducible exact Calls.regrown_of (HW1.out _)) | (go_at_call 9; with_reducible exact Calls.regrown_of (HW2.out _)) | (go_at_call 9; with_reducible exact Calls.regrown_of (HW3.out _))))
    refine wpQuiet_nil ?_
    intro _ hw'
    obtain ⟨⟨dq, osq⟩, hw''⟩ := hw'
    subst hw''
    replace LL := Below.on LL (below_regrown w8 dq osq)
    clear r0 r1 r2 r3 r4 r5 r6 r7
    simp only
    generalize grow (redrawn w8 dq) osq = W9 at *
    go_wp2_with fail
    go_ret
    exact ⟨rfl, LL⟩
  · have hu : undef = Value.tuple #[] := rfl
    obtain ⟨rfl, hw2⟩ := KM.out rfl
    have HY := Hid.mk' (witT hw2)
    clear hw2
    clear KD KM
    go_upto_region 9 with (first | (go_at_call 8; refine (HF.out _).mono ?_; rintro e w8 ⟨rfl, hb8⟩; have Aa := A.stay hb8; have zA0 := Aa.c0; have zA1 := Aa.c1; have Ba := B.stay hb8; have zB0 := Ba.c0; have zB1 := Ba.c1; have GCa := GC.stay hb8; have zGC0 := GCa.c0; have zGC1 := GCa.c1; have GDa := GD.stay hb8; have zGD0 := GDa.c0; have zGD1 := GDa.c1; have GXa := GX.stay hb8; have zGX0 := GXa.c0; have zGX1 := GXa.c1; have GYa := GY.stay hb8; have zGY0 := GYa.c0; have zGY1 := GYa.c1; have GMa := GM.stay hb8; have zGM0 := GMa.c0; have zGM1 := GMa.c1; have GNa := GN.stay hb8; have zGN0 := GNa.c0; have zGN1 := GNa.c1; have La := Below.on L hb8) | (go_at_call_of 9 (Value.agg #[Value.int .i64 M1, Value.int .i64 M2]); refine (HY.out _).mono ?_; rintro e w10 ⟨rfl, hb10⟩; have Ac := Aa.stay hb10; have Bc := Ba.stay hb10; have GCc := GCa.stay hb10; have GDc := GDa.stay hb10; have Lc := Below.on La hb10))
    have r0 := Ac.r0; have r1 := Ac.r1; have r2 := Bc.r0; have r3 := Bc.r1; have r4 := GCc.r0; have r5 := GCc.r1; have r6 := GDc.r0; have r7 := GDc.r1
    have LL := Lc
    refine wp_region_quiet_below (by kernel_rfl) (by kernel_rfl) ?_
    repeat (go_big_quiet_step (first | (go_at_call 10; with_reducible exact Calls.regrown_of (HJ1.out _)) | (go_at_call 10; with_reducible exact Calls.regrown_of (HJ2.out _)) | (go_at_call 9; with_reducible exact Calls.regrown_of (HW1.out _)) | (go_at_call 9; with_reducible exact Calls.regrown_of (HW2.out _)) | (go_at_call 9; with_reducible exact Calls.regrown_of (HW3.out _))))
    refine wpQuiet_nil ?_
    intro _ hw'
    obtain ⟨⟨dq, osq⟩, hw''⟩ := hw'
    subst hw''
    replace LL := Below.on LL (below_regrown w10 dq osq)
    clear r0 r1 r2 r3 r4 r5 r6 r7
    simp only
    generalize grow (redrawn w10 dq) osq = W9 at *
    go_wp2_with fail
    go_ret
    exact ⟨rfl, LL⟩
  · have hu : undef = Value.tuple #[] := rfl
    obtain ⟨rfl, hw1⟩ := KD.out rfl
    have HX := Hid.mk' (witT hw1)
    clear hw1
    clear KD KM
    go_upto_region 9 with (first | (go_at_call 8; refine (HF.out _).mono ?_; rintro e w8 ⟨rfl, hb8⟩; have Aa := A.stay hb8; have zA0 := Aa.c0; have zA1 := Aa.c1; have Ba := B.stay hb8; have zB0 := Ba.c0; have zB1 := Ba.c1; have GCa := GC.stay hb8; have zGC0 := GCa.c0; have zGC1 := GCa.c1; have GDa := GD.stay hb8; have zGD0 := GDa.c0; have zGD1 := GDa.c1; have GXa := GX.stay hb8; have zGX0 := GXa.c0; have zGX1 := GXa.c1; have GYa := GY.stay hb8; have zGY0 := GYa.c0; have zGY1 := GYa.c1; have GMa := GM.stay hb8; have zGM0 := GMa.c0; have zGM1 := GMa.c1; have GNa := GN.stay hb8; have zGN0 := GNa.c0; have zGN1 := GNa.c1; have La := Below.on L hb8) | (go_at_call_of 9 (Value.agg #[Value.int .i64 X1, Value.int .i64 X2]); refine (HX.out _).mono ?_; rintro e w9 ⟨rfl, hb9⟩; have Ab := Aa.stay hb9; have yA0 := Ab.c0; have yA1 := Ab.c1; have Bb := Ba.stay hb9; have yB0 := Bb.c0; have yB1 := Bb.c1; have GCb := GCa.stay hb9; have yGC0 := GCb.c0; have yGC1 := GCb.c1; have GDb := GDa.stay hb9; have yGD0 := GDb.c0; have yGD1 := GDb.c1; have GMb := GMa.stay hb9; have yGM0 := GMb.c0; have yGM1 := GMb.c1; have GNb := GNa.stay hb9; have yGN0 := GNb.c0; have yGN1 := GNb.c1; have Lb := Below.on La hb9))
    have r0 := Ab.r0; have r1 := Ab.r1; have r2 := Bb.r0; have r3 := Bb.r1; have r4 := GCb.r0; have r5 := GCb.r1; have r6 := GDb.r0; have r7 := GDb.r1
    have LL := Lb
    refine wp_region_quiet_below (by kernel_rfl) (by kernel_rfl) ?_
    repeat (go_big_quiet_step (first | (go_at_call 10; with_reducible exact Calls.regrown_of (HJ1.out _)) | (go_at_call 10; with_reducible exact Calls.regrown_of (HJ2.out _)) | (go_at_call 9; with_reducible exact Calls.regrown_of (HW1.out _)) | (go_at_call 9; with_reducible exact Calls.regrown_of (HW2.out _)) | (go_at_call 9; with_reducible exact Calls.regrown_of (HW3.out _))))
    refine wpQuiet_nil ?_
    intro _ hw'
    obtain ⟨⟨dq, osq⟩, hw''⟩ := hw'
    subst hw''
    replace LL := Below.on LL (below_regrown w9 dq osq)
    clear r0 r1 r2 r3 r4 r5 r6 r7
    simp only
    generalize grow (redrawn w9 dq) osq = W9 at *
    go_wp2_with fail
    go_ret
    exact ⟨rfl, LL⟩
  · have hu : undef = Value.tuple #[] := rfl
    obtain ⟨rfl, hw1⟩ := KD.out rfl
    have HX := Hid.mk' (witT hw1)
    clear hw1
    obtain ⟨rfl, hw2⟩ := KM.out rfl
    have HY := Hid.mk' (witT hw2)
    clear hw2
    clear KD KM
    go_upto_region 9 with (first | (go_at_call 8; refine (HF.out _).mono ?_; rintro e w8 ⟨rfl, hb8⟩; have Aa := A.stay hb8; have zA0 := Aa.c0; have zA1 := Aa.c1; have Ba := B.stay hb8; have zB0 := Ba.c0; have zB1 := Ba.c1; have GCa := GC.stay hb8; have zGC0 := GCa.c0; have zGC1 := GCa.c1; have GDa := GD.stay hb8; have zGD0 := GDa.c0; have zGD1 := GDa.c1; have GXa := GX.stay hb8; have zGX0 := GXa.c0; have zGX1 := GXa.c1; have GYa := GY.stay hb8; have zGY0 := GYa.c0; have zGY1 := GYa.c1; have GMa := GM.stay hb8; have zGM0 := GMa.c0; have zGM1 := GMa.c1; have GNa := GN.stay hb8; have zGN0 := GNa.c0; have zGN1 := GNa.c1; have La := Below.on L hb8) | (go_at_call_of 9 (Value.agg #[Value.int .i64 X1, Value.int .i64 X2]); refine (HX.out _).mono ?_; rintro e w9 ⟨rfl, hb9⟩; have Ab := Aa.stay hb9; have yA0 := Ab.c0; have yA1 := Ab.c1; have Bb := Ba.stay hb9; have yB0 := Bb.c0; have yB1 := Bb.c1; have GCb := GCa.stay hb9; have yGC0 := GCb.c0; have yGC1 := GCb.c1; have GDb := GDa.stay hb9; have yGD0 := GDb.c0; have yGD1 := GDb.c1; have GMb := GMa.stay hb9; have yGM0 := GMb.c0; have yGM1 := GMb.c1; have GNb := GNa.stay hb9; have yGN0 := GNb.c0; have yGN1 := GNb.c1; have Lb := Below.on La hb9) | (go_at_call_of 9 (Value.agg #[Value.int .i64 M1, Value.int .i64 M2]); refine (HY.out _).mono ?_; rintro e w10 ⟨rfl, hb10⟩; have Ac := Ab.stay hb10; have Bc := Bb.stay hb10; have GCc := GCb.stay hb10; have GDc := GDb.stay hb10; have Lc := Below.on Lb hb10))
    have r0 := Ac.r0; have r1 := Ac.r1; have r2 := Bc.r0; have r3 := Bc.r1; have r4 := GCc.r0; have r5 := GCc.r1; have r6 := GDc.r0; have r7 := GDc.r1
    have LL := Lc
    refine wp_region_quiet_below (by kernel_rfl) (by kernel_rfl) ?_
    repeat (go_big_quiet_step (first | (go_at_call 10; with_reducible exact Calls.regrown_of (HJ1.out _)) | (go_at_call 10; with_reducible exact Calls.regrown_of (HJ2.out _)) | (go_at_call 9; with_reducible exact Calls.regrown_of (HW1.out _)) | (go_at_call 9; with_reducible exact Calls.regrown_of (HW2.out _)) | (go_at_call 9; with_reducible exact Calls.regrown_of (HW3.out _))))
    refine wpQuiet_nil ?_
    intro _ hw'
    obtain ⟨⟨dq, osq⟩, hw''⟩ := hw'
    subst hw''
    replace LL := Below.on LL (below_regrown w10 dq osq)
    clear r0 r1 r2 r3 r4 r5 r6 r7
    simp only
    generalize grow (redrawn w10 dq) osq = W9 at *
    go_wp2_with fail
    go_ret
    exact ⟨rfl, LL⟩
end Go.Proofs.Ytbepapbfohfdkab

/- Plain: how often a span that is widened changes. -/
namespace Go.Proofs.Ytbepapbfohfdkab
open Go.RowKit

theorem flo_spec (n : Int) : ∀ (ts : List Int) (o : Int), o ≤ n → flo n ts o ≤ n ∧ (flo n ts o = o ∨ flo n ts o ∈ ts)
  | [], o, h => ⟨h, .inl rfl⟩
  | t :: ts, o, h => by
    have e : flo n (t :: ts) o = flo n ts (if t ≤ n then max o t else o) := rfl
    rw [e]
    split
    · next ht =>
      obtain ⟨h1, h2⟩ := flo_spec n ts (max o t) (by omega)
      refine ⟨h1, ?_⟩
      rcases h2 with h2 | h2
      · rcases (show max o t = o ∨ max o t = t by omega) with q | q
        · exact .inl (h2.trans q)
        · exact .inr (by rw [h2, q]; simp)
      · exact .inr (by simp [h2])
    · obtain ⟨h1, h2⟩ := flo_spec n ts o h
      exact ⟨h1, h2.imp id fun h => by simp [h]⟩
theorem roo_spec (n : Int) : ∀ (ts : List Int) (o : Int), n ≤ o → n ≤ roo n ts o ∧ (roo n ts o = o ∨ roo n ts o ∈ ts)
  | [], o, h => ⟨h, .inl rfl⟩
  | t :: ts, o, h => by
    have e : roo n (t :: ts) o = roo n ts (if n ≤ t then min o t else o) := rfl
    rw [e]
    split
    · next ht =>
      obtain ⟨h1, h2⟩ := roo_spec n ts (min o t) (by omega)
      refine ⟨h1, ?_⟩
      rcases h2 with h2 | h2
      · rcases (show min o t = o ∨ min o t = t by omega) with q | q
        · exact .inl (h2.trans q)
        · exact .inr (by rw [h2, q]; simp)
      · exact .inr (by simp [h2])
    · obtain ⟨h1, h2⟩ := roo_spec n ts o h
      exact ⟨h1, h2.imp id fun h => by simp [h]⟩
def cntL : List Int → Int → Nat
  | [], _ => 0
  | t :: ts, x => (if t < x then 1 else 0) + cntL ts x
def cntU : List Int → Int → Nat
  | [], _ => 0
  | t :: ts, x => (if x < t then 1 else 0) + cntU ts x
theorem cntL_mono {x y : Int} (h : y ≤ x) : ∀ ts, cntL ts y ≤ cntL ts x
  | [] => Nat.le_refl _
  | t :: ts => by have := cntL_mono h ts; unfold cntL; split <;> split <;> omega
theorem cntU_mono {x y : Int} (h : x ≤ y) : ∀ ts, cntU ts y ≤ cntU ts x
  | [] => Nat.le_refl _
  | t :: ts => by have := cntU_mono h ts; unfold cntU; split <;> split <;> omega
theorem cntL_lt {x y : Int} (h : y < x) : ∀ ts : List Int, y ∈ ts → cntL ts y + 1 ≤ cntL ts x
  | [], hy => by cases hy
  | t :: ts, hy => by
    have m := cntL_mono (show y ≤ x by omega) ts
    unfold cntL
    rcases List.mem_cons.1 hy with rfl | hy
    · rw [if_neg (by omega), if_pos h]; omega
    · have := cntL_lt h ts hy
      split <;> split <;> omega
theorem cntU_lt {x y : Int} (h : x < y) : ∀ ts : List Int, y ∈ ts → cntU ts y + 1 ≤ cntU ts x
  | [], hy => by cases hy
  | t :: ts, hy => by
    have m := cntU_mono (show x ≤ y by omega) ts
    unfold cntU
    rcases List.mem_cons.1 hy with rfl | hy
    · rw [if_neg (by omega), if_pos h]; omega
    · have := cntU_lt h ts hy
      split <;> split <;> omega
theorem cnt_two {x y : Int} (h : x ≤ y) : ∀ ts : List Int, cntL ts x + cntU ts y ≤ ts.length
  | [] => by simp [cntL, cntU]
  | t :: ts => by
    have := cnt_two h ts
    unfold cntL cntU
    rw [List.length_cons]
    split <;> split <;> omega
theorem cntL_zero : ∀ ts : List Int, (∀ t ∈ ts, Nm t) → cntL ts (-9223372036854775808) = 0
  | [], _ => rfl
  | t :: ts, h => by
    have h1 := h t (by simp)
    have h2 := cntL_zero ts fun u hu => h u (by simp [hu])
    unfold Nm at h1
    unfold cntL
    rw [if_neg (by omega), h2]
theorem cntU_zero : ∀ ts : List Int, (∀ t ∈ ts, Nm t) → cntU ts 9223372036854775807 = 0
  | [], _ => rfl
  | t :: ts, h => by
    have h1 := h t (by simp)
    have h2 := cntU_zero ts fun u hu => h u (by simp [hu])
    unfold Nm at h1
    unfold cntU
    rw [if_neg (by omega), h2]
/-- How often it may change yet. -/
def pot (ts : List Int) (a : Sp) : Nat := (cntL ts a.1 + if -9223372036854775808 < a.1 then 1 else 0) + (cntU ts a.2 + if a.2 < 9223372036854775807 then 1 else 0)
theorem pot_le {ts : List Int} {a : Sp} (h : a.1 ≤ a.2) : pot ts a ≤ ts.length + 2 := by
  have := cnt_two h ts
  unfold pot
  split <;> split <;> omega
theorem low_less {ts : List Int} {x j : Int} (ht : ∀ t ∈ ts, Nm t) (hj : -9223372036854775808 ≤ j) (hx : j < x) : floorN ts j ≤ j ∧ Nm (floorN ts j) ∧ (cntL ts (floorN ts j) + if -9223372036854775808 < floorN ts j then 1 else 0) + 1 ≤ cntL ts x + if -9223372036854775808 < x then 1 else 0 := by
  obtain ⟨h1, h2⟩ := flo_spec j ts (-9223372036854775808) hj
  unfold floorN
  refine ⟨h1, ?_⟩
  rw [if_pos (show -9223372036854775808 < x by omega)]
  rcases h2 with h2 | h2
  · rw [h2, cntL_zero ts ht]
    exact ⟨by unfold Nm; omega, by simp⟩
  · have h3 := ht _ h2
    refine ⟨h3, ?_⟩
    have := cntL_lt (show flo j ts (-9223372036854775808) < x by omega) ts h2
    split <;> omega
theorem high_less {ts : List Int} {x j : Int} (ht : ∀ t ∈ ts, Nm t) (hj : j ≤ 9223372036854775807) (hx : x < j) : j ≤ roofN ts j ∧ Nm (roofN ts j) ∧ (cntU ts (roofN ts j) + if roofN ts j < 9223372036854775807 then 1 else 0) + 1 ≤ cntU ts x + if x < 9223372036854775807 then 1 else 0 := by
  obtain ⟨h1, h2⟩ := roo_spec j ts 9223372036854775807 hj
  unfold roofN
  refine ⟨h1, ?_⟩
  rw [if_pos (show x < 9223372036854775807 by omega)]
  rcases h2 with h2 | h2
  · rw [h2, cntU_zero ts ht]
    exact ⟨by unfold Nm; omega, by simp⟩
  · have h3 := ht _ h2
    refine ⟨h3, ?_⟩
    have := cntU_lt (show x < roo j ts 9223372036854775807 by omega) ts h2
    split <;> omega
/-- A span that is widened has what came, and what it had; where it changes it may change less often from there on. -/
theorem wid_step {ts : List Int} {a s : Sp} (ht : ∀ t ∈ ts, Nm t) (ha : a.Ok) (hs : s.Ok) (hle : a.1 ≤ a.2) :
    (widS a s ts).Ok ∧ (widS a s ts).1 ≤ a.1 ∧ a.2 ≤ (widS a s ts).2 ∧ (s.1 ≤ s.2 → (widS a s ts).1 ≤ s.1 ∧ s.2 ≤ (widS a s ts).2) ∧ (s.2 < s.1 → widS a s ts = a) ∧ (widS a s ts ≠ a → pot ts (widS a s ts) + 1 ≤ pot ts a) := by
  have hj := join_ok ha hs
  have j1 := join_in (a := a) (b := s) hle
  have hjs := join_in2 (a := a) (b := s)
  have hw : widS a s ts = (if (joinS a s).1 = a.1 then (joinS a s).1 else floorN ts (joinS a s).1, if (joinS a s).2 = a.2 then (joinS a s).2 else roofN ts (joinS a s).2) := if_neg (by omega)
  have hem : s.2 < s.1 → joinS a s = a := fun h => by unfold joinS; rw [if_neg (by omega), if_pos h]
  generalize joinS a s = j at *
  have n1 : Nm a.1 := ha.1
  have n2 : Nm a.2 := ha.2
  have m1 : Nm j.1 := hj.1
  have m2 : Nm j.2 := hj.2
  by_cases e1 : j.1 = a.1
  · by_cases e2 : j.2 = a.2
    · have hw' : widS a s ts = a := by rw [hw, if_pos e1, if_pos e2]; exact Prod.ext e1 e2
      rw [hw']
      exact ⟨ha, Int.le_refl _, Int.le_refl _, fun h => by have := hjs h; omega, fun _ => rfl, fun h => absurd rfl h⟩
    · obtain ⟨u1, u2, u3⟩ := high_less (ts := ts) (x := a.2) (j := j.2) ht m2.2 (by omega)
      rw [if_pos e1, if_neg e2] at hw
      rw [hw]
      refine ⟨⟨m1, u2⟩, by simp only; omega, by simp only; omega, fun h => by have := hjs h; simp only; omega, fun h => absurd (congrArg Prod.snd (hem h)) e2, fun _ => ?_⟩
      unfold pot
      simp only [e1]
      omega
  · obtain ⟨l1, l2, l3⟩ := low_less (ts := ts) (x := a.1) (j := j.1) ht m1.1 (by omega)
    by_cases e2 : j.2 = a.2
    · rw [if_neg e1, if_pos e2] at hw
      rw [hw]
      refine ⟨⟨l2, m2⟩, by simp only; omega, by simp only; omega, fun h => by have := hjs h; simp only; omega, fun h => absurd (congrArg Prod.fst (hem h)) e1, fun _ => ?_⟩
      unfold pot
      simp only [e2]
      omega
    · obtain ⟨u1, u2, u3⟩ := high_less (ts := ts) (x := a.2) (j := j.2) ht m2.2 (by omega)
      rw [if_neg e1, if_neg e2] at hw
      rw [hw]
      refine ⟨⟨l2, u2⟩, by simp only; omega, by simp only; omega, fun h => by have := hjs h; simp only; omega, fun h => absurd (congrArg Prod.fst (hem h)) e1, fun _ => ?_⟩
      unfold pot
      simp only
      omega
/-- So many changes so far. -/
def InvE (ts : List Int) (a : Sp) (ch : Nat) : Prop := (a.2 < a.1 → ch = 0) ∧ (a.1 ≤ a.2 → ch + pot ts a ≤ ts.length + 2)
theorem InvE.end {ts : List Int} {a : Sp} {ch : Nat} (h : InvE ts a ch) : ch ≤ ts.length + 2 := by
  rcases Int.lt_or_le a.2 a.1 with h1 | h1
  · have := h.1 h1; omega
  · have := h.2 h1; omega
/-- One more came. -/
theorem inv_step {ts : List Int} {a s : Sp} {ch : Nat} (ht : ∀ t ∈ ts, Nm t) (ha : a.Ok) (hs : s.Ok) (h : InvE ts a ch) :
    (widS a s ts).Ok ∧ wiB a (widS a s ts) = true ∧ (s.1 ≤ s.2 → wiB s (widS a s ts) = true) ∧ InvE ts (widS a s ts) (if s.1 ≤ s.2 ∧ a.1 ≤ a.2 ∧ widS a s ts ≠ a then ch + 1 else ch) := by
  by_cases hle : a.1 ≤ a.2
  · obtain ⟨h1, h2, h3, h4, h5, h6⟩ := wid_step (ts := ts) ht ha hs hle
    refine ⟨h1, wiB_of h2 h3, fun hh => wiB_of (h4 hh).1 (h4 hh).2, fun hh => by omega, fun _ => ?_⟩
    have := h.2 hle
    by_cases e : widS a s ts = a
    · rw [if_neg (fun hh => hh.2.2 e), e]; exact this
    · have := h6 e
      split <;> omega
  · have e : widS a s ts = s := if_pos (by omega)
    rw [e, if_neg (fun hh => hle hh.2.1)]
    refine ⟨hs, decide_eq_true (.inl (by omega)), fun _ => wiB_refl _, fun _ => h.1 (by omega), fun hh => ?_⟩
    have := h.1 (by omega)
    have := pot_le (ts := ts) hh
    omega
end Go.Proofs.Ytbepapbfohfdkab

/- SpanEnds: a span that is widened again and again. -/
namespace Go.Proofs.Ytbepapbfohfdkab
open Go.RowKit Go.Lib Go.Sort

/-- A list of spans lies at an address. -/
def Sps (W : World) (a : Option Addr) (l : List Sp) : Prop := RowIn W a 2 (l.map fun s => [.int .i64 s.1, .int .i64 s.2])
theorem Sps.stay {W W' : World} {a : Option Addr} {l : List Sp} (h : Sps W a l) (hb : Below W.heap.size W W') : Sps W' a l := RowIn.stay h hb
theorem Sps.cell {W : World} {a : Option Addr} {l : List Sp} (h : Sps W a l) {k : Nat} {s : Sp} (hk : l[k]? = some s) : ∃ b o, a = some ⟨b, o, none⟩ ∧ W.cell? ⟨b, o + k * 2, none⟩ = some (.int .i64 s.1) ∧ W.cell? ⟨b, o + k * 2 + 1, none⟩ = some (.int .i64 s.2) := by
  obtain ⟨b, o, e, hc⟩ := h k [.int .i64 s.1, .int .i64 s.2] (by simp [hk])
  exact ⟨b, o, e, by simpa using hc 0 _ rfl, by have := hc 1 _ rfl; rwa [← Nat.add_assoc] at this⟩

theorem cell_below {W W' : World} {p : Addr} {v : Value} (h : W.cell? p = some v) (hb : Below W.heap.size W W') : W'.cell? p = some v := by rw [hb.cell (lt_of_cell h)]; exact h
set_option maxHeartbeats 4000000 in
theorem spanEnds_any (l : List Sp) (la : Option Addr) (lc : Nat) (ts : List Int) (ta : Option Addr) (tc : Nat) (w : World) (hl : l.length < 4611686018427387904) (hlS : Sps w la l) (hlO : ∀ s ∈ l, s.Ok) (htl : ts.length < 4611686018427387904) (htT : Ths w ta ts) (htN : ∀ t ∈ ts, Nm t) :
    Calls Try.prog 4 #[.slice la l.length lc, .slice ta ts.length tc] w fun e w' => e = .returned (.bool true) ∧ Below w.heap.size w w' := by
  have HF := Hid.mk' fixed_any
  have HWd := Hid.mk' fun o n w h => widen_any o n ts ta tc htl w h
  generalize hL : l.length = L at *
  generalize hT : ts.length = T at *
  go_enter Try.func4, Try.ntmps4
  go_upto_region 4 with (go_at_call 8; refine (HF.out _).mono ?_; rintro e w1 ⟨rfl, hb1⟩)
  have A := At.new w1 (1, 0)
  have B := Below.one hb1 (.cells #[.int .i64 1, .int .i64 0] 23)
  simp only at A
  have hgw : w.heap.size ≤ w1.heap.size := hb1.size
  clear hb1 HF
  generalize w1.alloc (.cells #[.int .i64 1, .int .i64 0] 23) = W at *
  generalize w1.heap.size = g at *
  go_wp2_with fail
  go_loopw [6, 7] (fun t6 t7 wr => ∃ (i ch : Nat) (at' : Sp), i ≤ L ∧ ch ≤ i ∧ t7 = .int .i64 i ∧ t6 = .int .i64 ch ∧ at'.Ok ∧ InvE ts at' ch ∧ At wr g at' ∧ Below w.heap.size w wr) (fun _ t7 _ => L - (intOf t7).toNat)
  case atStart => exact ⟨0, 0, (1, 0), by omega, by omega, rfl, rfl, by unfold Sp.Ok Nm; simp, ⟨fun _ => rfl, fun h => by simp at h⟩, A, B⟩
  case round =>
    clear A B
    obtain ⟨i, ch, at', hi, hci, rfl, rfl, hO, hI, A, B⟩ := hrel
    by_cases hlt : i < L
    · have hli : (i : Int) < L := by omega
      obtain ⟨s, hs⟩ : ∃ s, l[i]? = some s := ⟨_, List.getElem?_eq_getElem (by omega)⟩
      have hsO := hlO s (List.mem_of_getElem? hs)
      obtain ⟨n1, n2, n3, n4⟩ := inv_step (ts := ts) htN hO hsO hI
      obtain ⟨lb, lo, rfl, d0, d1⟩ := (hlS.stay B).cell hs
      have hTw := htT.stay B
      have HW := Hid.mk' fun w h => HWd.out at' s w h
      generalize widS at' s ts = nx at *
      obtain ⟨x1, x2⟩ := nx
      obtain ⟨s1, s2⟩ := s
      obtain ⟨a1, a2⟩ := at'
      go_wp2_with fail
      have hlb : lb < wr.heap.size := lt_of_cell d0
      have hgl : g < wr.heap.size := A.lt
      have ne1 : ¬ wr.heap.size = g := by omega
      have ne2 : ¬ g = wr.heap.size := by omega
      have ne3 : ¬ wr.heap.size = lb := by omega
      have ne4 : ¬ lb = wr.heap.size := by omega
      have z0 := A.c0; have z1 := A.c1
      simp only at d0 d1 z0 z1
      have HV := Hid.mk' (witT n2)
      go_region_held3 (fun w' => w'.cell? ⟨g, 0, none⟩ = some (.int .i64 a1) ∧ w'.cell? ⟨g, 1, none⟩ = some (.int .i64 a2) ∧ w'.cell? ⟨lb, lo + i * 2, none⟩ = some (.int .i64 s1) ∧ w'.cell? ⟨lb, lo + i * 2 + 1, none⟩ = some (.int .i64 s2)) (go_keep) (first | (go_at_call 11; refine (HW.out _ (hTw.stay (Below.drew (Below.refl _ _)))).mono ?_; rintro e w5 ⟨rfl, hb5⟩; have B5 := Below.on (Below.drew (Below.refl _ wr)) hb5; have C0 := A.stay B5; have y0 := C0.c0; have y1 := C0.c1; have e0 := cell_below d0 B5; have e1 := cell_below d1 B5; have l5 := lt_of_cell e0; have g5 := C0.lt) | (go_at_call 11; refine (HW.out _ (hTw.stay (Below.drew (Below.one (Below.refl _ _) _)))).mono ?_; rintro e w5 ⟨rfl, hb5⟩; have B5 := Below.on (Below.drew (Below.one (Below.refl _ wr) _)) hb5; have N0 := ((At.new wr (0, 0)).stay (Below.drew (Below.refl _ _))).stay hb5; have k0 := N0.c0; have k1 := N0.c1; have k2 := N0.f0; have k3 := N0.f1; have C0 := A.stay B5; have y0 := C0.c0; have y1 := C0.c1; have e0 := cell_below d0 B5; have e1 := cell_below d1 B5; have l5 := lt_of_cell e0; have g5 := C0.lt))
      · skip
        have P := At.new w5 (x1, x2)
        replace A := C0.more (.cells #[.int .i64 x1, .int .i64 x2] 23)
        replace B := Below.on B (Below.one B5 (.cells #[.int .i64 x1, .int .i64 x2] 23))
        replace d0 := cell_below e0 (Below.one (Below.refl _ _) (.cells #[.int .i64 x1, .int .i64 x2] 23))
        replace d1 := cell_below e1 (Below.one (Below.refl _ _) (.cells #[.int .i64 x1, .int .i64 x2] 23))
        simp only at P
        clear hb5 B5 C0 y0 y1 e0 e1 l5 g5 z0 z1 ne1 ne2 ne3 ne4 hlb hgl HW hTw
        generalize w5.alloc (.cells #[.int .i64 x1, .int .i64 x2] 23) = W5 at *
        generalize w5.heap.size = g8 at *
        go_upto_region 9 with fail
        have f0 := fun d os => cell_regrown d0 d os
        have f1 := fun d os => cell_regrown d1 d os
        have f2 := P.r0
        have f3 := P.r1
        refine wp_region_quiet_below (by kernel_rfl) (by kernel_rfl) ?_
        repeat (go_big_quiet_step (fail))
        refine wpQuiet_nil ?_
        intro _ hw'
        obtain ⟨⟨dq, osq⟩, hw''⟩ := hw'
        subst hw''
        have Bq := below_regrown W5 dq osq
        replace A := A.stay Bq
        replace P := P.stay Bq
        replace B := Below.on B Bq
        replace d0 := cell_below d0 Bq
        replace d1 := cell_below d1 Bq
        clear Bq f0 f1 f2 f3
        simp only
        generalize grow (redrawn W5 dq) osq = W5q at *
        by_cases hs : s1 ≤ s2
        · skip
          have HX := Hid.mk' (witT (n3 hs))
          by_cases ha : a1 ≤ a2
          · skip
            by_cases hx : (x1, x2) = (a1, a2)
            · skip
              rw [if_neg (fun hh => hh.2.2 hx)] at n4
              have HK := Hid.mk' (And.intro n1 n4)
              clear n1 n2 n3 n4 hO hI hsO hlS hlO htT htN HWd
              have hg := eqGuard_s
              have q : ∀ w, (Op.equalIn 10000 23 (.agg #[.int .i64 x1, .int .i64 x2]) (.agg #[.int .i64 a1, .int .i64 a2])).run Try.prog w = .ok true w := fun w => equalIn_T hx w
              clear hx
              have z0 := A.c0; have z1 := A.c1; have y0 := P.c0; have y1 := P.c1
              go_upto_region 12 with fail
              clear z0 z1 y0 y1 q hg
              have f0 := fun d os => cell_regrown d0 d os
              have f1 := fun d os => cell_regrown d1 d os
              have f2 := P.r0
              have f3 := P.r1
              refine wp_region_quiet_below (by kernel_rfl) (by kernel_rfl) ?_
              repeat (go_big_quiet_step (first | (go_at_call 9; with_reducible exact Calls.regrown_of (HX.out _))))
              refine wpQuiet_nil ?_
              intro _ hw'
              obtain ⟨⟨dq, osq⟩, hw''⟩ := hw'
              subst hw''
              have Bq := below_regrown W5q dq osq
              replace A := A.stay Bq
              replace P := P.stay Bq
              replace B := Below.on B Bq
              replace d0 := cell_below d0 Bq
              replace d1 := cell_below d1 Bq
              clear Bq f0 f1 f2 f3
              simp only
              generalize grow (redrawn W5q dq) osq = W5qq at *
              have z0 := A.c0; have z1 := A.c1; have y0 := P.c0; have y1 := P.c1; have u2 := A.f0; have u3 := A.f1
              go_wp2_with (go_at_call 9; refine (HV.out _).mono ?_; rintro e w7 ⟨rfl, hb7⟩; have A7 := A.stay hb7; have P7 := P.stay hb7; have p0 := P7.c0; have p1 := P7.c1; have p2 := A7.c0; have p3 := A7.c1; have p4 := A7.f0; have p5 := A7.f1)
              go_roundw
              case rel => exact ⟨i + 1, ch, (x1, x2), by omega, by omega, by go_num, rfl, HK.out.1, HK.out.2, A7.put (x1, x2), Below.put (Below.on B hb7) hgw (.int .i64 x1) (.int .i64 x2)⟩
              case measure => simp [intOf]; omega
            · skip
              rw [if_pos ⟨hs, ha, hx⟩] at n4
              have HK := Hid.mk' (And.intro n1 n4)
              clear n1 n2 n3 n4 hO hI hsO hlS hlO htT htN HWd
              have hg := eqGuard_s
              have q : ∀ w, (Op.equalIn 10000 23 (.agg #[.int .i64 x1, .int .i64 x2]) (.agg #[.int .i64 a1, .int .i64 a2])).run Try.prog w = .ok false w := fun w => equalIn_F hx w
              clear hx
              have z0 := A.c0; have z1 := A.c1; have y0 := P.c0; have y1 := P.c1
              go_upto_region 12 with fail
              clear z0 z1 y0 y1 q hg
              have f0 := fun d os => cell_regrown d0 d os
              have f1 := fun d os => cell_regrown d1 d os
              have f2 := P.r0
              have f3 := P.r1
              refine wp_region_quiet_below (by kernel_rfl) (by kernel_rfl) ?_
              repeat (go_big_quiet_step (first | (go_at_call 9; with_reducible exact Calls.regrown_of (HX.out _))))
              refine wpQuiet_nil ?_
              intro _ hw'
              obtain ⟨⟨dq, osq⟩, hw''⟩ := hw'
              subst hw''
              have Bq := below_regrown W5q dq osq
              replace A := A.stay Bq
              replace P := P.stay Bq
              replace B := Below.on B Bq
              replace d0 := cell_below d0 Bq
              replace d1 := cell_below d1 Bq
              clear Bq f0 f1 f2 f3
              simp only
              generalize grow (redrawn W5q dq) osq = W5qq at *
              have z0 := A.c0; have z1 := A.c1; have y0 := P.c0; have y1 := P.c1; have u2 := A.f0; have u3 := A.f1
              go_wp2_with (go_at_call 9; refine (HV.out _).mono ?_; rintro e w7 ⟨rfl, hb7⟩; have A7 := A.stay hb7; have P7 := P.stay hb7; have p0 := P7.c0; have p1 := P7.c1; have p2 := A7.c0; have p3 := A7.c1; have p4 := A7.f0; have p5 := A7.f1)
              go_roundw
              case rel => exact ⟨i + 1, ch + 1, (x1, x2), by omega, by omega, by go_num, by go_num, HK.out.1, HK.out.2, A7.put (x1, x2), Below.put (Below.on B hb7) hgw (.int .i64 x1) (.int .i64 x2)⟩
              case measure => simp [intOf]; omega
          · skip
            rw [if_neg (fun hh => ha hh.2.1)] at n4
            have HK := Hid.mk' (And.intro n1 n4)
            clear n1 n2 n3 n4 hO hI hsO hlS hlO htT htN HWd
            have z0 := A.c0; have z1 := A.c1; have y0 := P.c0; have y1 := P.c1
            go_upto_region 12 with fail
            clear z0 z1 y0 y1
            have f0 := fun d os => cell_regrown d0 d os
            have f1 := fun d os => cell_regrown d1 d os
            have f2 := P.r0
            have f3 := P.r1
            refine wp_region_quiet_below (by kernel_rfl) (by kernel_rfl) ?_
            repeat (go_big_quiet_step (first | (go_at_call 9; with_reducible exact Calls.regrown_of (HX.out _))))
            refine wpQuiet_nil ?_
            intro _ hw'
            obtain ⟨⟨dq, osq⟩, hw''⟩ := hw'
            subst hw''
            have Bq := below_regrown W5q dq osq
            replace A := A.stay Bq
            replace P := P.stay Bq
            replace B := Below.on B Bq
            replace d0 := cell_below d0 Bq
            replace d1 := cell_below d1 Bq
            clear Bq f0 f1 f2 f3
            simp only
            generalize grow (redrawn W5q dq) osq = W5qq at *
            have z0 := A.c0; have z1 := A.c1; have y0 := P.c0; have y1 := P.c1; have u2 := A.f0; have u3 := A.f1
            go_wp2_with (go_at_call 9; refine (HV.out _).mono ?_; rintro e w7 ⟨rfl, hb7⟩; have A7 := A.stay hb7; have P7 := P.stay hb7; have p0 := P7.c0; have p1 := P7.c1; have p2 := A7.c0; have p3 := A7.c1; have p4 := A7.f0; have p5 := A7.f1)
            go_roundw
            case rel => exact ⟨i + 1, ch, (x1, x2), by omega, by omega, by go_num, rfl, HK.out.1, HK.out.2, A7.put (x1, x2), Below.put (Below.on B hb7) hgw (.int .i64 x1) (.int .i64 x2)⟩
            case measure => simp [intOf]; omega
        · skip
          rw [if_neg (fun hh => hs hh.1)] at n4
          have HK := Hid.mk' (And.intro n1 n4)
          clear n1 n2 n3 n4 hO hI hsO hlS hlO htT htN HWd
          have z0 := A.c0; have z1 := A.c1; have y0 := P.c0; have y1 := P.c1; have u2 := A.f0; have u3 := A.f1
          go_wp2_with (go_at_call 9; refine (HV.out _).mono ?_; rintro e w7 ⟨rfl, hb7⟩; have A7 := A.stay hb7; have P7 := P.stay hb7; have p0 := P7.c0; have p1 := P7.c1; have p2 := A7.c0; have p3 := A7.c1; have p4 := A7.f0; have p5 := A7.f1)
          go_roundw
          case rel => exact ⟨i + 1, ch, (x1, x2), by omega, by omega, by go_num, rfl, HK.out.1, HK.out.2, A7.put (x1, x2), Below.put (Below.on B hb7) hgw (.int .i64 x1) (.int .i64 x2)⟩
          case measure => simp [intOf]; omega
      · skip
        have P := N0.put (x1, x2)
        replace A := C0.ne ne2 (.int .i64 x1) (.int .i64 x2)
        replace B := Below.on B (Below.put B5 (Nat.le_refl _) (.int .i64 x1) (.int .i64 x2))
        replace d0 := (World.cell?_setCell_other (w := w5.setCell ⟨wr.heap.size, 0, none⟩ (.int .i64 x1)) (a := ⟨wr.heap.size, 1, none⟩) (v := .int .i64 x2) (b := ⟨lb, lo + i * 2, none⟩) (fun h => ne3 (congrArg Addr.block h))).trans ((World.cell?_setCell_other (w := w5) (a := ⟨wr.heap.size, 0, none⟩) (v := .int .i64 x1) (b := ⟨lb, lo + i * 2, none⟩) (fun h => ne3 (congrArg Addr.block h))).trans e0)
        replace d1 := (World.cell?_setCell_other (w := w5.setCell ⟨wr.heap.size, 0, none⟩ (.int .i64 x1)) (a := ⟨wr.heap.size, 1, none⟩) (v := .int .i64 x2) (b := ⟨lb, lo + i * 2 + 1, none⟩) (fun h => ne3 (congrArg Addr.block h))).trans ((World.cell?_setCell_other (w := w5) (a := ⟨wr.heap.size, 0, none⟩) (v := .int .i64 x1) (b := ⟨lb, lo + i * 2 + 1, none⟩) (fun h => ne3 (congrArg Addr.block h))).trans e1)
        clear hb5 B5 C0 N0 k0 k1 k2 k3 y0 y1 e0 e1 l5 g5 z0 z1 ne1 ne2 ne3 ne4 hlb hgl HW hTw
        simp only at P
        generalize (w5.setCell ⟨wr.heap.size, 0, none⟩ (.int .i64 x1)).setCell ⟨wr.heap.size, 1, none⟩ (.int .i64 x2) = W5 at *
        generalize wr.heap.size = g8 at *
        go_upto_region 9 with fail
        have f0 := fun d os => cell_regrown d0 d os
        have f1 := fun d os => cell_regrown d1 d os
        have f2 := P.r0
        have f3 := P.r1
        refine wp_region_quiet_below (by kernel_rfl) (by kernel_rfl) ?_
        repeat (go_big_quiet_step (fail))
        refine wpQuiet_nil ?_
        intro _ hw'
        obtain ⟨⟨dq, osq⟩, hw''⟩ := hw'
        subst hw''
        have Bq := below_regrown W5 dq osq
        replace A := A.stay Bq
        replace P := P.stay Bq
        replace B := Below.on B Bq
        replace d0 := cell_below d0 Bq
        replace d1 := cell_below d1 Bq
        clear Bq f0 f1 f2 f3
        simp only
        generalize grow (redrawn W5 dq) osq = W5q at *
        by_cases hs : s1 ≤ s2
        · skip
          have HX := Hid.mk' (witT (n3 hs))
          by_cases ha : a1 ≤ a2
          · skip
            by_cases hx : (x1, x2) = (a1, a2)
            · skip
              rw [if_neg (fun hh => hh.2.2 hx)] at n4
              have HK := Hid.mk' (And.intro n1 n4)
              clear n1 n2 n3 n4 hO hI hsO hlS hlO htT htN HWd
              have hg := eqGuard_s
              have q : ∀ w, (Op.equalIn 10000 23 (.agg #[.int .i64 x1, .int .i64 x2]) (.agg #[.int .i64 a1, .int .i64 a2])).run Try.prog w = .ok true w := fun w => equalIn_T hx w
              clear hx
              have z0 := A.c0; have z1 := A.c1; have y0 := P.c0; have y1 := P.c1
              go_upto_region 12 with fail
              clear z0 z1 y0 y1 q hg
              have f0 := fun d os => cell_regrown d0 d os
              have f1 := fun d os => cell_regrown d1 d os
              have f2 := P.r0
              have f3 := P.r1
              refine wp_region_quiet_below (by kernel_rfl) (by kernel_rfl) ?_
              repeat (go_big_quiet_step (first | (go_at_call 9; with_reducible exact Calls.regrown_of (HX.out _))))
              refine wpQuiet_nil ?_
              intro _ hw'
              obtain ⟨⟨dq, osq⟩, hw''⟩ := hw'
              subst hw''
              have Bq := below_regrown W5q dq osq
              replace A := A.stay Bq
              replace P := P.stay Bq
              replace B := Below.on B Bq
              replace d0 := cell_below d0 Bq
              replace d1 := cell_below d1 Bq
              clear Bq f0 f1 f2 f3
              simp only
              generalize grow (redrawn W5q dq) osq = W5qq at *
              have z0 := A.c0; have z1 := A.c1; have y0 := P.c0; have y1 := P.c1; have u2 := A.f0; have u3 := A.f1
              go_wp2_with (go_at_call 9; refine (HV.out _).mono ?_; rintro e w7 ⟨rfl, hb7⟩; have A7 := A.stay hb7; have P7 := P.stay hb7; have p0 := P7.c0; have p1 := P7.c1; have p2 := A7.c0; have p3 := A7.c1; have p4 := A7.f0; have p5 := A7.f1)
              go_roundw
              case rel => exact ⟨i + 1, ch, (x1, x2), by omega, by omega, by go_num, rfl, HK.out.1, HK.out.2, A7.put (x1, x2), Below.put (Below.on B hb7) hgw (.int .i64 x1) (.int .i64 x2)⟩
              case measure => simp [intOf]; omega
            · skip
              rw [if_pos ⟨hs, ha, hx⟩] at n4
              have HK := Hid.mk' (And.intro n1 n4)
              clear n1 n2 n3 n4 hO hI hsO hlS hlO htT htN HWd
              have hg := eqGuard_s
              have q : ∀ w, (Op.equalIn 10000 23 (.agg #[.int .i64 x1, .int .i64 x2]) (.agg #[.int .i64 a1, .int .i64 a2])).run Try.prog w = .ok false w := fun w => equalIn_F hx w
              clear hx
              have z0 := A.c0; have z1 := A.c1; have y0 := P.c0; have y1 := P.c1
              go_upto_region 12 with fail
              clear z0 z1 y0 y1 q hg
              have f0 := fun d os => cell_regrown d0 d os
              have f1 := fun d os => cell_regrown d1 d os
              have f2 := P.r0
              have f3 := P.r1
              refine wp_region_quiet_below (by kernel_rfl) (by kernel_rfl) ?_
              repeat (go_big_quiet_step (first | (go_at_call 9; with_reducible exact Calls.regrown_of (HX.out _))))
              refine wpQuiet_nil ?_
              intro _ hw'
              obtain ⟨⟨dq, osq⟩, hw''⟩ := hw'
              subst hw''
              have Bq := below_regrown W5q dq osq
              replace A := A.stay Bq
              replace P := P.stay Bq
              replace B := Below.on B Bq
              replace d0 := cell_below d0 Bq
              replace d1 := cell_below d1 Bq
              clear Bq f0 f1 f2 f3
              simp only
              generalize grow (redrawn W5q dq) osq = W5qq at *
              have z0 := A.c0; have z1 := A.c1; have y0 := P.c0; have y1 := P.c1; have u2 := A.f0; have u3 := A.f1
              go_wp2_with (go_at_call 9; refine (HV.out _).mono ?_; rintro e w7 ⟨rfl, hb7⟩; have A7 := A.stay hb7; have P7 := P.stay hb7; have p0 := P7.c0; have p1 := P7.c1; have p2 := A7.c0; have p3 := A7.c1; have p4 := A7.f0; have p5 := A7.f1)
              go_roundw
              case rel => exact ⟨i + 1, ch + 1, (x1, x2), by omega, by omega, by go_num, by go_num, HK.out.1, HK.out.2, A7.put (x1, x2), Below.put (Below.on B hb7) hgw (.int .i64 x1) (.int .i64 x2)⟩
              case measure => simp [intOf]; omega
          · skip
            rw [if_neg (fun hh => ha hh.2.1)] at n4
            have HK := Hid.mk' (And.intro n1 n4)
            clear n1 n2 n3 n4 hO hI hsO hlS hlO htT htN HWd
            have z0 := A.c0; have z1 := A.c1; have y0 := P.c0; have y1 := P.c1
            go_upto_region 12 with fail
            clear z0 z1 y0 y1
            have f0 := fun d os => cell_regrown d0 d os
            have f1 := fun d os => cell_regrown d1 d os
            have f2 := P.r0
            have f3 := P.r1
            refine wp_region_quiet_below (by kernel_rfl) (by kernel_rfl) ?_
            repeat (go_big_quiet_step (first | (go_at_call 9; with_reducible exact Calls.regrown_of (HX.out _))))
            refine wpQuiet_nil ?_
            intro _ hw'
            obtain ⟨⟨dq, osq⟩, hw''⟩ := hw'
            subst hw''
            have Bq := below_regrown W5q dq osq
            replace A := A.stay Bq
            replace P := P.stay Bq
            replace B := Below.on B Bq
            replace d0 := cell_below d0 Bq
            replace d1 := cell_below d1 Bq
            clear Bq f0 f1 f2 f3
            simp only
            generalize grow (redrawn W5q dq) osq = W5qq at *
            have z0 := A.c0; have z1 := A.c1; have y0 := P.c0; have y1 := P.c1; have u2 := A.f0; have u3 := A.f1
            go_wp2_with (go_at_call 9; refine (HV.out _).mono ?_; rintro e w7 ⟨rfl, hb7⟩; have A7 := A.stay hb7; have P7 := P.stay hb7; have p0 := P7.c0; have p1 := P7.c1; have p2 := A7.c0; have p3 := A7.c1; have p4 := A7.f0; have p5 := A7.f1)
            go_roundw
            case rel => exact ⟨i + 1, ch, (x1, x2), by omega, by omega, by go_num, rfl, HK.out.1, HK.out.2, A7.put (x1, x2), Below.put (Below.on B hb7) hgw (.int .i64 x1) (.int .i64 x2)⟩
            case measure => simp [intOf]; omega
        · skip
          rw [if_neg (fun hh => hs hh.1)] at n4
          have HK := Hid.mk' (And.intro n1 n4)
          clear n1 n2 n3 n4 hO hI hsO hlS hlO htT htN HWd
          have z0 := A.c0; have z1 := A.c1; have y0 := P.c0; have y1 := P.c1; have u2 := A.f0; have u3 := A.f1
          go_wp2_with (go_at_call 9; refine (HV.out _).mono ?_; rintro e w7 ⟨rfl, hb7⟩; have A7 := A.stay hb7; have P7 := P.stay hb7; have p0 := P7.c0; have p1 := P7.c1; have p2 := A7.c0; have p3 := A7.c1; have p4 := A7.f0; have p5 := A7.f1)
          go_roundw
          case rel => exact ⟨i + 1, ch, (x1, x2), by omega, by omega, by go_num, rfl, HK.out.1, HK.out.2, A7.put (x1, x2), Below.put (Below.on B hb7) hgw (.int .i64 x1) (.int .i64 x2)⟩
          case measure => simp [intOf]; omega
    · have hiL : i = L := by omega
      subst hiL
      have hE := hI.end
      have hli : ¬ (i : Int) < i := by omega
      have hE' : (ch : Int) ≤ (T : Int) + 2 := by omega
      go_wp2_with fail
      go_ret
      exact ⟨rfl, B⟩
end Go.Proofs.Ytbepapbfohfdkab

/- A list of spans, opened. -/
namespace Go.Proofs.Ytbepapbfohfdkab
open Go.ChangeShapes Go.WideShapes Go.ChangeAt Go.RowKit

theorem open_spans {H : Type} {enc : TypeId × Value → H} {W : World} {held : Bool} {v : Value} {d : DataW H} {ps : List MemPlace}
    {r : Reach} {b0 : Nat} (hv : Value.okWide Try.prog W r b0 31 v) (h : DataW.Trod enc Try.prog W 0 (fun _ => true) held 31 v d ps) (hs : Small Try.prog 31 d) :
    ∃ (a : Option Addr) (c : Nat) (l : List Sp), v = .slice a l.length c ∧ l.length < 4611686018427387904 ∧ Sps W a l ∧ ∀ s ∈ l, s.Ok := by
  obtain ⟨a0, l0, c0, rfl⟩ := okWide_slice Try.underlying31 hv
  obtain ⟨fuel, h⟩ := h
  obtain ⟨a, c, l, e, h1, h2, _, hr, hq⟩ := open_rows (α := Sp) (cells := fun s => [.int .i64 s.1, .int .i64 s.2]) (In := Sp.Ok) (k := 2) (B := 16) Try.underlying31 (by kernel_rfl) (by omega) (by kernel_rfl) (fun m cs y _ hy hz => by
    obtain ⟨n, hn, hcl, hf⟩ := open_field Try.underlying23 hy hz
    obtain ⟨y0, e0, _⟩ := hf 0 _ rfl
    obtain ⟨y1, e1, _⟩ := hf 1 _ rfl
    have c1 : Try.prog.cellsOf 2 = 1 := by kernel_rfl
    have e0' : DataW.trod enc Try.prog W 0 (fun _ => true) held n 2 ((cs.drop 0).take (Try.prog.cellsOf 2)) = some y0 := e0
    have e1' : DataW.trod enc Try.prog W 0 (fun _ => true) held n 2 ((cs.drop 1).take (Try.prog.cellsOf 2)) = some y1 := e1
    rw [c1] at e0' e1'
    obtain ⟨n0, q0, _, w0⟩ := DataW.trod_int Try.underlying2 e0'
    obtain ⟨n1, q1, _, w1⟩ := DataW.trod_int Try.underlying2 e1'
    rw [cellsS] at hcl
    match cs, hcl with
    | [u0, u1], _ =>
      simp at q0 q1
      exact ⟨(n0, n1), by rw [q0, q1], i64_of w0, i64_of w1⟩) h hs
  exact ⟨a, c, l, by simpa [Value.cells] using e, by omega, hr, hq⟩
end Go.Proofs.Ytbepapbfohfdkab
