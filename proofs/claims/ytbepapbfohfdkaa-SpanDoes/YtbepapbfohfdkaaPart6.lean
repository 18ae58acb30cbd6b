/- Spans: Widen. -/
import Derived.Test.YtbepapbfohfdkaaPart5
import Derived.Test.YtbepapbfohfdkaaPart3
import Derived.Test.YtbepapbfohfdkaaPart2
import Derived.BigRegion
namespace Go.Proofs.Ytbepapbfohfdkaa
open Go.RowKit Go.Lib Go.Sort

set_option maxHeartbeats 1000000 in
theorem widen_no (al ah bl bh : Int) (ts : List Int) (a : Option Addr) (c : Nat) (h1 : ah < al) (w : World) : Calls Try.prog 24 #[sv (al, ah), sv (bl, bh), .slice a ts.length c] w fun e w' => e = .returned (sv (bl, bh)) ∧ Below w.heap.size w w' := by
  have HE : Hid (∀ w, Calls Try.prog 27 #[.agg #[.int .i64 al, .int .i64 ah]] w fun e w' => e = .returned (.bool true) ∧ Below w.heap.size w w') := emT h1
  have hb := fun (o1 o2 o3 : Obj) => (Below.one (Below.one (Below.one (Below.refl _ w) o1) o2) o3 : Below w.heap.size w _)
  clear h1
  go_enter Try.func24, Try.ntmps24
  go_wp2_with (go_at_call_of 27 (Value.agg #[Value.int .i64 al, Value.int .i64 ah]); refine (HE.out _).mono ?_; rintro e w1 ⟨rfl, hb1⟩; have A0 := At.stay (At.more (At.more (At.new w (al, ah)) _) _) hb1; have A1 := At.stay (At.more (At.new1 w (bl, bh) _) _) hb1; have A2 := At.stay (At.new2 w (0, 0) _ _) hb1; have x0 := A0.c0; have x1 := A0.c1; have y0 := A1.c0; have y1 := A1.c1; have z0 := A2.c0; have z1 := A2.c1; have z2 := A2.f0; have z3 := A2.f1)
  exact bodyPost_ret (v := sv (bl, bh)) (by simp [results, Try.results24, go_sem, *]) rfl ⟨rfl, Below.put (Below.on (hb _ _ _) hb1) (by omega) _ _⟩
set_option maxHeartbeats 2000000 in
theorem widen_core (al ah bl bh : Int) (ts : List Int) (a : Option Addr) (c : Nat) (h1 : al ≤ ah) (hl : ts.length < 4611686018427387904) (w : World) (ht : Ths w a ts) : Calls Try.prog 24 #[sv (al, ah), sv (bl, bh), .slice a ts.length c] w fun e w' => e = .returned (sv (widS (al, ah) (bl, bh) ts)) ∧ Below w.heap.size w w' := by
  have HE : Hid (∀ w, Calls Try.prog 27 #[.agg #[.int .i64 al, .int .i64 ah]] w fun e w' => e = .returned (.bool false) ∧ Below w.heap.size w w') := emF h1
  have HJ := Hid.mk' fun w => join_any (al, ah) (bl, bh) w
  have HW : Hid (widS (al, ah) (bl, bh) ts = (if (joinS (al, ah) (bl, bh)).1 = al then (joinS (al, ah) (bl, bh)).1 else floorN ts (joinS (al, ah) (bl, bh)).1, if (joinS (al, ah) (bl, bh)).2 = ah then (joinS (al, ah) (bl, bh)).2 else roofN ts (joinS (al, ah) (bl, bh)).2)) := if_neg (by simp only; omega)
  generalize widS (al, ah) (bl, bh) ts = R at *
  obtain ⟨R1, R2⟩ := R
  generalize joinS (al, ah) (bl, bh) = J at *
  obtain ⟨j1, j2⟩ := J
  simp only at HJ HW
  have HF : Hid (∀ w, Ths w a ts → Calls Try.prog 46 #[.slice a ts.length c, .int .i64 j1] w fun e w' => e = .returned (.int .i64 (floorN ts j1)) ∧ w' = w) := fun w h => floor_any ts j1 a c hl w h
  have HG : Hid (∀ w, Ths w a ts → Calls Try.prog 47 #[.slice a ts.length c, .int .i64 j2] w fun e w' => e = .returned (.int .i64 (roofN ts j2)) ∧ w' = w) := fun w h => roof_any ts j2 a c hl w h
  generalize floorN ts j1 = f1 at *
  generalize roofN ts j2 = f2 at *
  generalize ts.length = L at *
  have hb := fun (o1 o2 o3 : Obj) => (Below.one (Below.one (Below.one (Below.refl _ w) o1) o2) o3 : Below w.heap.size w _)
  clear h1 hl
  go_enter Try.func24, Try.ntmps24
  go_upto_region 4 with (first | (go_at_call_of 27 (Value.agg #[Value.int .i64 al, Value.int .i64 ah]); refine (HE.out _).mono ?_; rintro e w1 ⟨rfl, hb1⟩; have A0 := At.stay (At.more (At.more (At.new w (al, ah)) _) _) hb1; have A1 := At.stay (At.more (At.new1 w (bl, bh) _) _) hb1; have A2 := At.stay (At.new2 w (0, 0) _ _) hb1; have x0 := A0.c0; have x1 := A0.c1; have y0 := A1.c0; have y1 := A1.c1; have z0 := A2.c0; have z1 := A2.c1; have z2 := A2.f0; have z3 := A2.f1) | (go_at_call 16; refine (HJ.out _).mono ?_; rintro e w2 ⟨rfl, hb2⟩))
  have B := Below.one (Below.on (Below.on (hb _ _ _) hb1) hb2) (.cells #[.int .i64 j1, .int .i64 j2] 23)
  replace A0 := A0.on (.cells #[.int .i64 j1, .int .i64 j2] 23) hb2
  replace A2 := A2.on (.cells #[.int .i64 j1, .int .i64 j2] 23) hb2
  have A3 := At.new w2 (j1, j2)
  have hsz : w.heap.size + 2 < w2.heap.size := by have := hb1.size; have := hb2.size; simp only [World.size_alloc] at *; omega
  simp only at A3
  clear hb hb1 hb2 HE HJ x0 x1 y0 y1 z0 z1 z2 z3 A1
  generalize w2.alloc (.cells #[.int .i64 j1, .int .i64 j2] 23) = W at *
  generalize w2.heap.size = gO at *
  have T0 := ht.stay B
  have T1 : ∀ x, Ths (W.setCell ⟨gO, 0, none⟩ x) a ts := fun x => ht.stay (B.setCell (by simp only; omega) x)
  clear ht
  have x0 := A0.c0; have x1 := A0.c1; have z0 := A2.c0; have z1 := A2.c1; have z2 := A2.f0; have z3 := A2.f1; have u0 := A3.c0; have u1 := A3.c1; have u2 := A3.f0; have u3 := A3.f1
  have hne1 : w.heap.size + 1 + 1 ≠ gO := by omega
  have hne2 : w.heap.size ≠ gO := by omega
  have hW := HW.out
  clear HW
  by_cases e1 : j1 = al
  · by_cases e2 : j2 = ah
    · rw [if_pos e1, if_pos e2] at hW
      obtain ⟨rfl, rfl⟩ := Prod.mk.inj hW
      clear hW
      have q1 : (R1 == al) = true := by simp [e1]
      have q2 : (R2 == ah) = true := by simp [e2]
      clear e1 e2
      go_wp2_with fail
      exact bodyPost_ret (v := sv (R1, R2)) (by simp [results, Try.results24, go_sem, *]) rfl ⟨rfl, Below.put B (by omega) _ _⟩
    · rw [if_pos e1, if_neg e2] at hW
      obtain ⟨rfl, rfl⟩ := Prod.mk.inj hW
      clear hW
      have q1 : (R1 == al) = true := by simp [e1]
      have q2 : (j2 == ah) = false := by simp [e2]
      clear e1 e2
      go_wp2_with (go_at_call 47; refine (HG.out _ T0).mono ?_; rintro e w5 ⟨rfl, hw5⟩; rw [hw5]; clear hw5)
      exact bodyPost_ret (v := sv (R1, R2)) (by simp [results, Try.results24, go_sem, *]) rfl ⟨rfl, Below.put (B.setCell (by simp only; omega) _) (by omega) _ _⟩
  · by_cases e2 : j2 = ah
    · rw [if_neg e1, if_pos e2] at hW
      obtain ⟨rfl, rfl⟩ := Prod.mk.inj hW
      clear hW
      have q1 : (j1 == al) = false := by simp [e1]
      have q2 : (R2 == ah) = true := by simp [e2]
      clear e1 e2
      go_wp2_with (go_at_call 46; refine (HF.out _ T0).mono ?_; rintro e w5 ⟨rfl, hw5⟩; rw [hw5]; clear hw5)
      exact bodyPost_ret (v := sv (R1, R2)) (by simp [results, Try.results24, go_sem, *]) rfl ⟨rfl, Below.put (B.setCell (by simp only; omega) _) (by omega) _ _⟩
    · rw [if_neg e1, if_neg e2] at hW
      obtain ⟨rfl, rfl⟩ := Prod.mk.inj hW
      clear hW
      have q1 : (j1 == al) = false := by simp [e1]
      have q2 : (j2 == ah) = false := by simp [e2]
      clear e1 e2
      go_wp2_with (first | (go_at_call 46; refine (HF.out _ T0).mono ?_; rintro e w5 ⟨rfl, hw5⟩; rw [hw5]; clear hw5) | (go_at_call 47; refine (HG.out _ (T1 _)).mono ?_; rintro e w5 ⟨rfl, hw5⟩; rw [hw5]; clear hw5))
      exact bodyPost_ret (v := sv (R1, R2)) (by simp [results, Try.results24, go_sem, *]) rfl ⟨rfl, Below.put ((B.setCell (by simp only; omega) _).setCell (by simp only; omega) _) (by omega) _ _⟩
theorem widen_any (o n : Sp) (ts : List Int) (a : Option Addr) (c : Nat) (hl : ts.length < 4611686018427387904) (w : World) (ht : Ths w a ts) : Calls Try.prog 24 #[sv o, sv n, .slice a ts.length c] w fun e w' => e = .returned (sv (widS o n ts)) ∧ Below w.heap.size w w' := by
  obtain ⟨al, ah⟩ := o
  obtain ⟨bl, bh⟩ := n
  by_cases h : ah < al
  · rw [show widS (al, ah) (bl, bh) ts = (bl, bh) from if_pos h]
    exact widen_no al ah bl bh ts a c h w
  · exact widen_core al ah bl bh ts a c (by omega) hl w ht
end Go.Proofs.Ytbepapbfohfdkaa

/- Spans: what is left of two where the one's number is below the other's. -/
namespace Go.Proofs.Ytbepapbfohfdkaa
open Go.RowKit Go.Lib Go.Sort

set_option maxHeartbeats 2000000 in
theorem below_any (a b : Sp) (ha : a.Ok) (hb' : b.Ok) (w : World) : Calls Try.prog 22 #[sv a, sv b] w fun e w' => e = .returned (.tuple #[sv (belA a b), sv (belC a b), .bool (belB a b)]) ∧ Below w.heap.size w w' := by
  obtain ⟨al, ah⟩ := a
  obtain ⟨bl, bh⟩ := b
  have hn1 := ha.1
  have hn2 := hb'.2
  unfold Nm at hn1 hn2
  simp only at hn1 hn2
  clear ha hb'
  have HE := Hid.mk' empV
  have hb := fun (o1 o2 o3 o4 : Obj) => (Below.one (Below.one (Below.one (Below.one (Below.refl _ w) o1) o2) o3) o4 : Below w.heap.size w _)
  by_cases h1 : ah < al
  · skip
    have e1 : belB (al, ah) (bl, bh) = false := decide_eq_false (by simp only; omega)
    have e2 : belA (al, ah) (bl, bh) = (0, 0) := if_neg (by simp only; omega)
    have e3 : belC (al, ah) (bl, bh) = (0, 0) := if_neg (by simp only; omega)
    rw [e1, e2, e3]
    clear e1 e2 e3
    have hu : undef = Value.tuple #[] := rfl
    go_enter Try.func22, Try.ntmps22
    go_wp2_with (go_at_call_of 27 (Value.agg #[Value.int .i64 al, Value.int .i64 ah]); refine (HE.out _ _ _).mono ?_; rintro e w1 ⟨rfl, hb1⟩; have A0 := At.stay (At.more (At.more (At.more (At.new w (al, ah)) _) _) _) hb1; have A1 := At.stay (At.more (At.more (At.new1 w (bl, bh) _) _) _) hb1; have A2 := At.stay (At.more (At.new2 w (0, 0) _ _) _) hb1; have A3 := At.stay (At.new3 w (0, 0) _ _ _) hb1; have x0 := A0.c0; have x1 := A0.c1; have y0 := A1.c0; have y1 := A1.c1; have z0 := A2.c0; have z1 := A2.c1; have z2 := A2.f0; have z3 := A2.f1; have q0 := A3.c0; have q1 := A3.c1; have q2 := A3.f0; have q3 := A3.f1)
    exact bodyPost_ret (v := .tuple #[sv (0, 0), sv (0, 0), .bool false]) (by simp [results, Try.results22, go_sem, *]) rfl ⟨rfl, ((((Below.on (hb _ _ _ _) hb1).setCell (by simp; omega) _).setCell (by simp; omega) _).setCell (by simp; omega) _).setCell (by simp; omega) _⟩
  · by_cases h2 : bh < bl
    · skip
      have e1 : belB (al, ah) (bl, bh) = false := decide_eq_false (by simp only; omega)
      have e2 : belA (al, ah) (bl, bh) = (0, 0) := if_neg (by simp only; omega)
      have e3 : belC (al, ah) (bl, bh) = (0, 0) := if_neg (by simp only; omega)
      rw [e1, e2, e3]
      clear e1 e2 e3
      have hu : undef = Value.tuple #[] := rfl
      go_enter Try.func22, Try.ntmps22
      go_wp2_with (first | (go_at_call_of 27 (Value.agg #[Value.int .i64 al, Value.int .i64 ah]); refine (HE.out _ _ _).mono ?_; rintro e w1 ⟨rfl, hb1⟩; have A0 := At.stay (At.more (At.more (At.more (At.new w (al, ah)) _) _) _) hb1; have A1 := At.stay (At.more (At.more (At.new1 w (bl, bh) _) _) _) hb1; have A2 := At.stay (At.more (At.new2 w (0, 0) _ _) _) hb1; have A3 := At.stay (At.new3 w (0, 0) _ _ _) hb1; have x0 := A0.c0; have x1 := A0.c1; have y0 := A1.c0; have y1 := A1.c1; have z0 := A2.c0; have z1 := A2.c1; have z2 := A2.f0; have z3 := A2.f1; have q0 := A3.c0; have q1 := A3.c1; have q2 := A3.f0; have q3 := A3.f1) | (go_at_call_of 27 (Value.agg #[Value.int .i64 bl, Value.int .i64 bh]); refine (HE.out _ _ _).mono ?_; rintro e w2 ⟨rfl, hb2⟩; have D0 := A0.stay hb2; have D1 := A1.stay hb2; have D2 := A2.stay hb2; have D3 := A3.stay hb2; have u0 := D0.c0; have u1 := D0.c1; have v0 := D1.c0; have v1 := D1.c1; have t0 := D2.c0; have t1 := D2.c1; have t2 := D2.f0; have t3 := D2.f1; have r0 := D3.c0; have r1 := D3.c1; have r2 := D3.f0; have r3 := D3.f1))
      exact bodyPost_ret (v := .tuple #[sv (0, 0), sv (0, 0), .bool false]) (by simp [results, Try.results22, go_sem, *]) rfl ⟨rfl, ((((Below.on (Below.on (hb _ _ _ _) hb1) hb2).setCell (by simp; omega) _).setCell (by simp; omega) _).setCell (by simp; omega) _).setCell (by simp; omega) _⟩
    · by_cases h3 : bh ≤ al
      · skip
        have e1 : belB (al, ah) (bl, bh) = false := decide_eq_false (by simp only; omega)
        have e2 : belA (al, ah) (bl, bh) = (0, 0) := if_neg (by simp only; omega)
        have e3 : belC (al, ah) (bl, bh) = (0, 0) := if_neg (by simp only; omega)
        rw [e1, e2, e3]
        clear e1 e2 e3
        go_enter Try.func22, Try.ntmps22
        go_wp2_with (first | (go_at_call_of 27 (Value.agg #[Value.int .i64 al, Value.int .i64 ah]); refine (HE.out _ _ _).mono ?_; rintro e w1 ⟨rfl, hb1⟩; have A0 := At.stay (At.more (At.more (At.more (At.new w (al, ah)) _) _) _) hb1; have A1 := At.stay (At.more (At.more (At.new1 w (bl, bh) _) _) _) hb1; have A2 := At.stay (At.more (At.new2 w (0, 0) _ _) _) hb1; have A3 := At.stay (At.new3 w (0, 0) _ _ _) hb1; have x0 := A0.c0; have x1 := A0.c1; have y0 := A1.c0; have y1 := A1.c1; have z0 := A2.c0; have z1 := A2.c1; have z2 := A2.f0; have z3 := A2.f1; have q0 := A3.c0; have q1 := A3.c1; have q2 := A3.f0; have q3 := A3.f1) | (go_at_call_of 27 (Value.agg #[Value.int .i64 bl, Value.int .i64 bh]); refine (HE.out _ _ _).mono ?_; rintro e w2 ⟨rfl, hb2⟩; have D0 := A0.stay hb2; have D1 := A1.stay hb2; have D2 := A2.stay hb2; have D3 := A3.stay hb2; have u0 := D0.c0; have u1 := D0.c1; have v0 := D1.c0; have v1 := D1.c1; have t0 := D2.c0; have t1 := D2.c1; have t2 := D2.f0; have t3 := D2.f1; have r0 := D3.c0; have r1 := D3.c1; have r2 := D3.f0; have r3 := D3.f1))
        exact bodyPost_ret (v := .tuple #[sv (0, 0), sv (0, 0), .bool false]) (by simp [results, Try.results22, go_sem, *]) rfl ⟨rfl, ((((Below.on (Below.on (hb _ _ _ _) hb1) hb2).setCell (by simp; omega) _).setCell (by simp; omega) _).setCell (by simp; omega) _).setCell (by simp; omega) _⟩
      · have e1 : belB (al, ah) (bl, bh) = true := decide_eq_true (by simp only; omega)
        have e2 : belA (al, ah) (bl, bh) = (al, min ah (bh - 1)) := if_pos (by simp only; omega)
        have e3 : belC (al, ah) (bl, bh) = (max bl (al + 1), bh) := if_pos (by simp only; omega)
        rw [e1, e2, e3]
        clear e1 e2 e3
        go_enter Try.func22, Try.ntmps22
        go_upto_region 3 with (first | (go_at_call_of 27 (Value.agg #[Value.int .i64 al, Value.int .i64 ah]); refine (HE.out _ _ _).mono ?_; rintro e w1 ⟨rfl, hb1⟩; have A0 := At.stay (At.more (At.more (At.more (At.new w (al, ah)) _) _) _) hb1; have A1 := At.stay (At.more (At.more (At.new1 w (bl, bh) _) _) _) hb1; have A2 := At.stay (At.more (At.new2 w (0, 0) _ _) _) hb1; have A3 := At.stay (At.new3 w (0, 0) _ _ _) hb1; have x0 := A0.c0; have x1 := A0.c1; have y0 := A1.c0; have y1 := A1.c1; have z0 := A2.c0; have z1 := A2.c1; have z2 := A2.f0; have z3 := A2.f1; have q0 := A3.c0; have q1 := A3.c1; have q2 := A3.f0; have q3 := A3.f1) | (go_at_call_of 27 (Value.agg #[Value.int .i64 bl, Value.int .i64 bh]); refine (HE.out _ _ _).mono ?_; rintro e w2 ⟨rfl, hb2⟩; have D0 := A0.stay hb2; have D1 := A1.stay hb2; have D2 := A2.stay hb2; have D3 := A3.stay hb2; have u0 := D0.c0; have u1 := D0.c1; have v0 := D1.c0; have v1 := D1.c1; have t0 := D2.c0; have t1 := D2.c1; have t2 := D2.f0; have t3 := D2.f1; have r0 := D3.c0; have r1 := D3.c1; have r2 := D3.f0; have r3 := D3.f1))
        have B := (Below.on (Below.on (hb _ _ _ _) hb1) hb2)
        clear x0 x1 y0 y1 z0 z1 z2 z3 q0 q1 q2 q3 A0 A1 A2 A3 D0 D1 D2 D3 hb1 hb2 hb HE
        have q1 : (if bh - 1 < ah then bh - 1 else ah) = min ah (bh - 1) := by omega
        have q2 : (if bl < al + 1 then al + 1 else bl) = max bl (al + 1) := by omega
        have Hq := Hid.mk' (And.intro q1 q2)
        clear q1 q2
        go_region
        rw [Hq.out.1, Hq.out.2]
        clear Hq
        go_wp2_with fail
        exact bodyPost_ret (v := .tuple #[sv (al, min ah (bh - 1)), sv (max bl (al + 1), bh), .bool true]) (by simp [results, Try.results22, go_sem, *]) rfl ⟨rfl, Below.drew ((((B.setCell (by simp; omega) _).setCell (by simp; omega) _).setCell (by simp; omega) _).setCell (by simp; omega) _)⟩
end Go.Proofs.Ytbepapbfohfdkaa

/- The law's own question that is asked first: it is answered yes. -/
namespace Go.Proofs.Ytbepapbfohfdkaa
open Go.RowKit Go.Lib Go.Sort

theorem K1 (w : World) : Calls Try.prog 20 #[.int .i64 3, .agg #[.int .i64 1, .int .i64 2], .agg #[.int .i64 10, .int .i64 20]] w fun e w' => e = .returned (.tuple #[.agg #[.int .i64 11, .int .i64 22], .bool true]) ∧ Below w.heap.size w w' := by
  have := do_any 3 (1, 2) (10, 20) (by unfold Sp.Ok Nm; simp) (by unfold Sp.Ok Nm; simp) w
  rwa [show doR 3 (1, 2) (10, 20) = (11, 22) by kernel_rfl, show doB 3 (1, 2) (10, 20) = true by kernel_rfl] at this
theorem K2 (w : World) : Calls Try.prog 9 #[.agg #[.int .i64 1, .int .i64 5], .agg #[.int .i64 4, .int .i64 9]] w fun e w' => e = .returned (.tuple #[.agg #[.int .i64 4, .int .i64 5], .bool true]) ∧ Below w.heap.size w w' := by
  have := meet_any (1, 5) (4, 9) w
  rwa [show meetS (1, 5) (4, 9) = (4, 5) by kernel_rfl, show meetB (1, 5) (4, 9) = true by kernel_rfl] at this
theorem K3 (w : World) : Calls Try.prog 22 #[.agg #[.int .i64 0, .int .i64 9], .agg #[.int .i64 0, .int .i64 5]] w fun e w' => e = .returned (.tuple #[.agg #[.int .i64 0, .int .i64 4], .agg #[.int .i64 1, .int .i64 5], .bool true]) ∧ Below w.heap.size w w' := by
  have := below_any (0, 9) (0, 5) (by unfold Sp.Ok Nm; simp) (by unfold Sp.Ok Nm; simp) w
  rwa [show belA (0, 9) (0, 5) = (0, 4) by kernel_rfl, show belC (0, 9) (0, 5) = (1, 5) by kernel_rfl, show belB (0, 9) (0, 5) = true by kernel_rfl] at this
theorem K4 (w : World) (a : Option Addr) (h : Ths w a [4, 8]) : Calls Try.prog 24 #[.agg #[.int .i64 0, .int .i64 3], .agg #[.int .i64 0, .int .i64 5], .slice a 2 2] w fun e w' => e = .returned (.agg #[.int .i64 0, .int .i64 8]) ∧ Below w.heap.size w w' := by
  have := widen_any (0, 3) (0, 5) [4, 8] a 2 (by simp) w h
  rwa [show widS (0, 3) (0, 5) [4, 8] = (0, 8) by kernel_rfl] at this
theorem K5 (w : World) : Calls Try.prog 18 #[.agg #[.int .i64 3, .int .i64 99], .agg #[.int .i64 0, .int .i64 10]] w fun e w' => e = .returned (.int .u64 7) ∧ Below w.heap.size w w' := by
  have := length_any (3, 99) (0, 10) (by unfold Sp.Ok Nm; simp) (by unfold Sp.Ok Nm; simp) w
  rwa [show lenN (3, 99) (0, 10) = 7 by kernel_rfl] at this
theorem K6 (w : World) : Calls Try.prog 14 #[.agg #[.int .i64 (-9223372036854775808), .int .i64 9223372036854775807], .int .i64 (-9223372036854775808)] w fun e w' => e = .returned (.bool true) ∧ Below w.heap.size w w' := hasT (by omega) w
theorem K7 (w : World) : Calls Try.prog 16 #[.agg #[.int .i64 1, .int .i64 2], .agg #[.int .i64 9, .int .i64 9]] w fun e w' => e = .returned (.agg #[.int .i64 1, .int .i64 9]) ∧ Below w.heap.size w w' := by
  have := join_any (1, 2) (9, 9) w
  rwa [show joinS (1, 2) (9, 9) = (1, 9) by kernel_rfl] at this
theorem ths_block {W : World} {g : Nat} {x y : Int} {t : TypeId} (h : W.heap[g]? = some (.cells #[.int .i64 x, .int .i64 y] t)) : Ths W (some ⟨g, 0, none⟩) [x, y] := by
  intro i cs hi
  refine ⟨g, 0, rfl, fun j v hj => ?_⟩
  match i, hi with
  | 0, hi =>
    simp at hi; subst hi
    match j, hj with
    | 0, hj => simp at hj; subst hj; rw [Lib.cell_of_heap h]; rfl
  | 1, hi =>
    simp at hi; subst hi
    match j, hj with
    | 0, hj => simp at hj; subst hj; rw [Lib.cell_of_heap h]; rfl

set_option maxRecDepth 100000 in
set_option maxHeartbeats 4000000 in
theorem fixed_any (w : World) : Calls Try.prog 11 #[] w fun e w' => e = .returned (.bool true) ∧ Below w.heap.size w w' := by
  have H1 := Hid.mk' K1; have H2 := Hid.mk' K2; have H3 := Hid.mk' K3; have H4 := Hid.mk' K4; have H5 := Hid.mk' K5; have H6 := Hid.mk' K6; have H7 := Hid.mk' K7; have H8 := Hid.mk' allV
  have hg := eqGuard_s
  have q1 := fun w => equalIn_T (rfl : ((11 : Int), (22 : Int)) = (11, 22)) w
  have q2 := fun w => equalIn_T (rfl : ((4 : Int), (5 : Int)) = (4, 5)) w
  have q3 := fun w => equalIn_T (rfl : ((0 : Int), (4 : Int)) = (0, 4)) w
  have q4 := fun w => equalIn_T (rfl : ((1 : Int), (5 : Int)) = (1, 5)) w
  have q5 := fun w => equalIn_T (rfl : ((0 : Int), (8 : Int)) = (0, 8)) w
  have q6 := fun w => equalIn_T (rfl : ((1 : Int), (9 : Int)) = (1, 9)) w
  go_enter Try.func11, Try.ntmps11
  go_upto_region 2 with (go_at_call 20; refine (H1.out _).mono ?_; rintro e w1 ⟨rfl, hb1⟩)
  have A1 := At.new w1 (11, 22)
  have B1 := Below.one hb1 (.cells #[.int .i64 11, .int .i64 22] 23)
  simp only at A1
  clear hb1 H1
  generalize w1.alloc (.cells #[.int .i64 11, .int .i64 22] 23) = W1 at *
  generalize w1.heap.size = g1 at *
  go_upto_region 3 with (go_at_call 9; refine (H2.out _).mono ?_; rintro e w2 ⟨rfl, hb2⟩)
  replace A1 := A1.on (.cells #[.int .i64 4, .int .i64 5] 23) hb2
  have A2 := At.new w2 (4, 5)
  have B2 := Below.one (Below.on B1 hb2) (.cells #[.int .i64 4, .int .i64 5] 23)
  simp only at A2
  clear hb2 H2 B1
  generalize w2.alloc (.cells #[.int .i64 4, .int .i64 5] 23) = W2 at *
  generalize w2.heap.size = g2 at *
  go_upto_region 4 with (go_at_call 22; refine (H3.out _).mono ?_; rintro e w3 ⟨rfl, hb3⟩)
  replace A1 := (A1.on (.cells #[.int .i64 0, .int .i64 4] 23) hb3).more (.cells #[.int .i64 1, .int .i64 5] 23)
  replace A2 := (A2.on (.cells #[.int .i64 0, .int .i64 4] 23) hb3).more (.cells #[.int .i64 1, .int .i64 5] 23)
  have A3 := (At.new w3 (0, 4)).more (.cells #[.int .i64 1, .int .i64 5] 23)
  have A4 := At.new1 w3 (1, 5) (.cells #[.int .i64 0, .int .i64 4] 23)
  have B3 := Below.one (Below.one (Below.on B2 hb3) (.cells #[.int .i64 0, .int .i64 4] 23)) (.cells #[.int .i64 1, .int .i64 5] 23)
  simp only at A3 A4
  clear hb3 H3 B2
  generalize (w3.alloc (.cells #[.int .i64 0, .int .i64 4] 23)).alloc (.cells #[.int .i64 1, .int .i64 5] 23) = W3 at *
  generalize w3.heap.size = g3 at *
  go_upto_region 5 with (go_at_call 24; refine (H4.out _ _ (ths_block (heap_alloc_new _ _))).mono ?_; rintro e w4 ⟨rfl, hb4⟩)
  replace A1 := ((A1.more _).on (.cells #[.int .i64 0, .int .i64 8] 23) hb4)
  replace A2 := ((A2.more _).on (.cells #[.int .i64 0, .int .i64 8] 23) hb4)
  replace A3 := ((A3.more _).on (.cells #[.int .i64 0, .int .i64 8] 23) hb4)
  replace A4 := ((A4.more _).on (.cells #[.int .i64 0, .int .i64 8] 23) hb4)
  have A5 := At.new w4 (0, 8)
  have B4 := Below.one (Below.on (Below.one B3 _) hb4) (.cells #[.int .i64 0, .int .i64 8] 23)
  simp only at A5
  clear hb4 H4 B3
  generalize w4.alloc (.cells #[.int .i64 0, .int .i64 8] 23) = W4 at *
  generalize w4.heap.size = g5 at *
  have x0 := A1.c0; have x1 := A1.c1; have x2 := A2.c0; have x3 := A2.c1; have x4 := A3.c0; have x5 := A3.c1; have x6 := A4.c0; have x7 := A4.c1; have x8 := A5.c0; have x9 := A5.c1
  go_wp2_with (first | (go_at_call 18; refine (H5.out _).mono ?_; rintro e w5 ⟨rfl, hb5⟩) | (go_at_call 12; refine (H8.out _).mono ?_; rintro e w6 ⟨rfl, hb6⟩) | (go_at_call 14; refine (H6.out _).mono ?_; rintro e w7 ⟨rfl, hb7⟩) | (go_at_call 16; refine (H7.out _).mono ?_; rintro e w8 ⟨rfl, hb8⟩))
  go_ret
  exact ⟨rfl, Below.on (Below.on (Below.on (Below.on B4 hb5) hb6) hb7) hb8⟩
end Go.Proofs.Ytbepapbfohfdkaa

/- The document's own answers: the small functions. -/
namespace Go.Proofs.Ytbepapbfohfdkaa
open Go.RowKit Go.Lib Go.Sort

theorem none_any (a : Sp) (w : World) : Calls Try.prog 30 #[sv a] w fun e w' => e = .returned (.bool (emB a)) ∧ Below w.heap.size w w' := by
  have hb := fun (o1 : Obj) => (Below.one (Below.refl _ w) o1 : Below w.heap.size w _)
  obtain ⟨l, h⟩ := a
  have he : emB (l, h) = decide (l > h) := rfl
  rw [he]
  go_enter Try.func30, Try.ntmps30
  go_wp2
  go_ret
  exact ⟨rfl, hb _⟩
theorem noF {l h : Int} (H : l ≤ h) (w : World) : Calls Try.prog 30 #[.agg #[.int .i64 l, .int .i64 h]] w fun e w' => e = .returned (.bool false) ∧ Below w.heap.size w w' := by
  have := none_any (l, h) w
  rwa [show emB (l, h) = false from decide_eq_false (by simp only; omega)] at this
theorem noT {l h : Int} (H : h < l) (w : World) : Calls Try.prog 30 #[.agg #[.int .i64 l, .int .i64 h]] w fun e w' => e = .returned (.bool true) ∧ Below w.heap.size w w' := by
  have := none_any (l, h) w
  rwa [show emB (l, h) = true from decide_eq_true H] at this
theorem rall_any (w : World) : Calls Try.prog 13 #[] w fun e w' => e = .returned (sv allS) ∧ Below w.heap.size w w' := by
  have hb := fun (o1 : Obj) => (Below.one (Below.refl _ w) o1 : Below w.heap.size w _)
  go_enter Try.func13, Try.ntmps13
  go_wp2
  exact bodyPost_ret (v := sv allS) (by simp [results, Try.results13, go_sem, allS]) rfl ⟨rfl, hb _⟩
theorem rallV (w : World) : Calls Try.prog 13 #[] w fun e w' => e = .returned (.agg #[.int .i64 (-9223372036854775808), .int .i64 9223372036854775807]) ∧ Below w.heap.size w w' := rall_any w
theorem rhas_any (a : Sp) (n : Int) (w : World) : Calls Try.prog 15 #[sv a, .int .i64 n] w fun e w' => e = .returned (.bool (hasB a n)) ∧ Below w.heap.size w w' := by
  have hb := fun (o1 : Obj) => (Below.one (Below.refl _ w) o1 : Below w.heap.size w _)
  obtain ⟨l, h⟩ := a
  by_cases h1 : l ≤ n
  · have he : hasB (l, h) n = decide (n ≤ h) := by unfold hasB; simp [h1]
    rw [he]
    go_enter Try.func15, Try.ntmps15
    go_wp2
    go_ret
    exact ⟨rfl, hb _⟩
  · have he : hasB (l, h) n = false := by unfold hasB; simp [h1]
    rw [he]
    go_enter Try.func15, Try.ntmps15
    go_wp2
    go_ret
    exact ⟨rfl, hb _⟩
theorem lesser_any (x y : Int) (w : World) : Calls Try.prog 29 #[.int .i64 x, .int .i64 y] w fun e w' => e = .returned (.int .i64 (min x y)) ∧ w' = w := by
  by_cases h : x < y
  · rw [show min x y = x by omega]
    go_enter Try.func29, Try.ntmps29
    go_wp2
    go_ret
    exact ⟨rfl, rfl⟩
  · rw [show min x y = y by omega]
    go_enter Try.func29, Try.ntmps29
    go_wp2
    go_ret
    exact ⟨rfl, rfl⟩
theorem greater_any (x y : Int) (w : World) : Calls Try.prog 28 #[.int .i64 x, .int .i64 y] w fun e w' => e = .returned (.int .i64 (max x y)) ∧ w' = w := by
  by_cases h : y < x
  · rw [show max x y = x by omega]
    go_enter Try.func28, Try.ntmps28
    go_wp2
    go_ret
    exact ⟨rfl, rfl⟩
  · rw [show max x y = y by omega]
    go_enter Try.func28, Try.ntmps28
    go_wp2
    go_ret
    exact ⟨rfl, rfl⟩
theorem lesB (x y : Int) (w : World) : Calls Try.prog 29 #[.int .i64 x, .int .i64 y] w fun e w' => e = .returned (.int .i64 (min x y)) ∧ Below w.heap.size w w' := (lesser_any x y w).mono fun _ _ ⟨h1, h2⟩ => ⟨h1, h2 ▸ Below.refl _ _⟩
theorem greB (x y : Int) (w : World) : Calls Try.prog 28 #[.int .i64 x, .int .i64 y] w fun e w' => e = .returned (.int .i64 (max x y)) ∧ Below w.heap.size w w' := (greater_any x y w).mono fun _ _ ⟨h1, h2⟩ => ⟨h1, h2 ▸ Below.refl _ _⟩
theorem rtruth_any (y n : Bool) (w : World) : Calls Try.prog 39 #[.bool y, .bool n] w fun e w' => e = .returned (sv (tru y n)) ∧ Below w.heap.size w w' := by
  have hb := fun (o1 : Obj) => (Below.one (Below.refl _ w) o1 : Below w.heap.size w _)
  cases y
  · cases n
    · go_enter Try.func39, Try.ntmps39
      go_wp2
      exact bodyPost_ret (v := sv (0, 1)) (by simp [results, Try.results39, go_sem]) rfl ⟨rfl, hb _⟩
    · go_enter Try.func39, Try.ntmps39
      go_wp2
      exact bodyPost_ret (v := sv (0, 0)) (by simp [results, Try.results39, go_sem]) rfl ⟨rfl, hb _⟩
  · go_enter Try.func39, Try.ntmps39
    go_wp2
    exact bodyPost_ret (v := sv (1, 1)) (by simp [results, Try.results39, go_sem]) rfl ⟨rfl, hb _⟩
theorem rlength_any (a b : Sp) (ha : a.Ok) (hb' : b.Ok) (w : World) : Calls Try.prog 19 #[sv a, sv b] w fun e w' => e = .returned (.int .u64 (lenN a b)) ∧ Below w.heap.size w w' := by
  have hb := fun (o1 o2 : Obj) => (Below.one (Below.one (Below.refl _ w) o1) o2 : Below w.heap.size w _)
  obtain ⟨l, h⟩ := a
  obtain ⟨l2, h2⟩ := b
  by_cases hh : h2 ≤ l
  · have HE : Hid (lenN (l, h) (l2, h2) = 0) := by show _ = _; unfold lenN; rw [if_pos hh]
    go_enter Try.func19, Try.ntmps19
    go_wp2
    go_ret
    exact ⟨by rw [HE.out]; rfl, hb _ _⟩
  · have HE : Hid (lenN (l, h) (l2, h2) = IntKind.u64.wrap (IntKind.u64.wrap h2 - IntKind.u64.wrap l)) := by
      show _ = _
      rw [IntKind.wrap_u64, IntKind.wrap_u64, IntKind.wrap_u64]
      unfold lenN Sp.Ok Nm at *
      rw [if_neg hh]
      omega
    go_enter Try.func19, Try.ntmps19
    go_wp2
    go_ret
    exact ⟨by rw [HE.out]; rfl, hb _ _⟩
theorem rop3 (x y : Int) (w : World) : Calls Try.prog 26 #[.int .i64 3, .int .i64 x, .int .i64 y] w fun e w' => e = .returned (.tuple #[.int .i64 (wrap64 (x + y)), .bool true]) ∧ w' = w := by
  go_enter Try.func26, Try.ntmps26
  go_wp2
  go_ret2
  exact ⟨rfl, rfl⟩
theorem rop4 (x y : Int) (w : World) : Calls Try.prog 26 #[.int .i64 4, .int .i64 x, .int .i64 y] w fun e w' => e = .returned (.tuple #[.int .i64 (wrap64 (x - y)), .bool true]) ∧ w' = w := by
  go_enter Try.func26, Try.ntmps26
  go_wp2
  go_ret2
  exact ⟨rfl, rfl⟩
theorem rop5 (x y : Int) (w : World) : Calls Try.prog 26 #[.int .i64 5, .int .i64 x, .int .i64 y] w fun e w' => e = .returned (.tuple #[.int .i64 (wrap64 (x * y)), .bool true]) ∧ w' = w := by
  go_enter Try.func26, Try.ntmps26
  go_wp2
  go_ret2
  exact ⟨rfl, rfl⟩
theorem rop6 (x y : Int) (h : y ≠ 0) (w : World) : Calls Try.prog 26 #[.int .i64 6, .int .i64 x, .int .i64 y] w fun e w' => e = .returned (.tuple #[.int .i64 (wrap64 (x.tdiv y)), .bool true]) ∧ w' = w := by
  have h1 := beq_no h
  go_enter Try.func26, Try.ntmps26
  go_wp2
  go_ret2
  exact ⟨rfl, rfl⟩
theorem rop7 (x y : Int) (h : y ≠ 0) (w : World) : Calls Try.prog 26 #[.int .i64 7, .int .i64 x, .int .i64 y] w fun e w' => e = .returned (.tuple #[.int .i64 (x.tmod y), .bool true]) ∧ w' = w := by
  have h1 := beq_no h
  go_enter Try.func26, Try.ntmps26
  go_wp2
  go_ret2
  exact ⟨rfl, rfl⟩
theorem rop8T (x y : Int) (h : x < y) (w : World) : Calls Try.prog 26 #[.int .i64 8, .int .i64 x, .int .i64 y] w fun e w' => e = .returned (.tuple #[.int .i64 1, .bool true]) ∧ w' = w := by
  go_enter Try.func26, Try.ntmps26
  go_wp2
  go_ret2
  exact ⟨rfl, rfl⟩
theorem rop8F (x y : Int) (h : ¬ x < y) (w : World) : Calls Try.prog 26 #[.int .i64 8, .int .i64 x, .int .i64 y] w fun e w' => e = .returned (.tuple #[.int .i64 0, .bool true]) ∧ w' = w := by
  go_enter Try.func26, Try.ntmps26
  go_wp2
  go_ret2
  exact ⟨rfl, rfl⟩
theorem rop9T (x y : Int) (h : x = y) (w : World) : Calls Try.prog 26 #[.int .i64 9, .int .i64 x, .int .i64 y] w fun e w' => e = .returned (.tuple #[.int .i64 1, .bool true]) ∧ w' = w := by
  have h1 : (x == y) = true := by simp [h]
  clear h
  go_enter Try.func26, Try.ntmps26
  go_wp2
  go_ret2
  exact ⟨rfl, rfl⟩
theorem rop9F (x y : Int) (h : x ≠ y) (w : World) : Calls Try.prog 26 #[.int .i64 9, .int .i64 x, .int .i64 y] w fun e w' => e = .returned (.tuple #[.int .i64 0, .bool true]) ∧ w' = w := by
  have h1 := beq_no h
  clear h
  go_enter Try.func26, Try.ntmps26
  go_wp2
  go_ret2
  exact ⟨rfl, rfl⟩
theorem rop10T (x y : Int) (h : x = 0) (w : World) : Calls Try.prog 26 #[.int .i64 10, .int .i64 x, .int .i64 y] w fun e w' => e = .returned (.tuple #[.int .i64 1, .bool true]) ∧ w' = w := by
  have h1 : (x == 0) = true := by simp [h]
  clear h
  go_enter Try.func26, Try.ntmps26
  go_wp2
  go_ret2
  exact ⟨rfl, rfl⟩
theorem rop10F (x y : Int) (h : x ≠ 0) (w : World) : Calls Try.prog 26 #[.int .i64 10, .int .i64 x, .int .i64 y] w fun e w' => e = .returned (.tuple #[.int .i64 0, .bool true]) ∧ w' = w := by
  have h1 := beq_no h
  clear h
  go_enter Try.func26, Try.ntmps26
  go_wp2
  go_ret2
  exact ⟨rfl, rfl⟩
theorem rop6Z (x : Int) (w : World) : Calls Try.prog 26 #[.int .i64 6, .int .i64 x, .int .i64 0] w fun e w' => e = .returned (.tuple #[.int .i64 0, .bool false]) ∧ w' = w := by
  go_enter Try.func26, Try.ntmps26
  go_wp2
  go_ret2
  exact ⟨rfl, rfl⟩
theorem rop7Z (x : Int) (w : World) : Calls Try.prog 26 #[.int .i64 7, .int .i64 x, .int .i64 0] w fun e w' => e = .returned (.tuple #[.int .i64 0, .bool false]) ∧ w' = w := by
  go_enter Try.func26, Try.ntmps26
  go_wp2
  go_ret2
  exact ⟨rfl, rfl⟩
theorem rop_no (op x y : Int) (o3 : op ≠ 3) (o4 : op ≠ 4) (o5 : op ≠ 5) (o6 : op ≠ 6) (o7 : op ≠ 7) (o8 : op ≠ 8) (o9 : op ≠ 9) (o10 : op ≠ 10) (w : World) : Calls Try.prog 26 #[.int .i64 op, .int .i64 x, .int .i64 y] w fun e w' => e = .returned (.tuple #[.int .i64 0, .bool false]) ∧ w' = w := by
  have p3 := beq_no o3
  have p4 := beq_no o4
  have p5 := beq_no o5
  have p6 := beq_no o6
  have p7 := beq_no o7
  have p8 := beq_no o8
  have p9 := beq_no o9
  have p10 := beq_no o10
  clear o3 o4 o5 o6 o7 o8 o9 o10
  go_enter Try.func26, Try.ntmps26
  go_wp2
  go_ret2
  exact ⟨rfl, rfl⟩
end Go.Proofs.Ytbepapbfohfdkaa

/- The document's own Do: nothing; no. -/
namespace Go.Proofs.Ytbepapbfohfdkaa
open Go.RowKit Go.Lib Go.Sort

set_option maxRecDepth 100000 in
set_option maxHeartbeats 1000000 in
theorem rdo_emA (op al ah bl bh : Int) (h1 : ah < al) (w : World) : Calls Try.prog 21 #[.int .i64 op, sv (al, ah), sv (bl, bh)] w fun e w' => e = .returned (.tuple #[sv (0, 0), .bool false]) ∧ Below w.heap.size w w' := by
  have HEa : Hid (∀ w, Calls Try.prog 30 #[.agg #[.int .i64 al, .int .i64 ah]] w fun e w' => e = .returned (.bool true) ∧ Below w.heap.size w w') := noT h1
  have hb := fun (o1 o2 o3 : Obj) => (Below.one (Below.one (Below.one (Below.refl _ w) o1) o2) o3 : Below w.heap.size w _)
  clear h1
  go_enter Try.func21, Try.ntmps21
  go_wp2_with (go_at_call_of 30 (Value.agg #[Value.int .i64 al, Value.int .i64 ah]); refine (HEa.out _).mono ?_; rintro e w1 ⟨rfl, hb1⟩; have A0 := At.stay (At.more (At.more (At.new w (al, ah)) _) _) hb1; have A1 := At.stay (At.more (At.new1 w (bl, bh) _) _) hb1; have A2 := At.stay (At.new2 w (0, 0) _ _) hb1; have x0 := A0.c0; have x1 := A0.c1; have y0 := A1.c0; have y1 := A1.c1; have z0 := A2.c0; have z1 := A2.c1; have z2 := A2.f0; have z3 := A2.f1)
  exact bodyPost_ret (v := .tuple #[sv (0, 0), .bool false]) (by simp [results, Try.results21, go_sem, *]) rfl ⟨rfl, Below.put (Below.on (hb _ _ _) hb1) (by omega) _ _⟩
set_option maxRecDepth 100000 in
set_option maxHeartbeats 1000000 in
theorem rdo_emB (op al ah bl bh : Int) (h1 : al ≤ ah) (h2 : bh < bl) (h3 : op ≠ 10) (w : World) : Calls Try.prog 21 #[.int .i64 op, sv (al, ah), sv (bl, bh)] w fun e w' => e = .returned (.tuple #[sv (0, 0), .bool false]) ∧ Below w.heap.size w w' := by
  have HEa : Hid (∀ w, Calls Try.prog 30 #[.agg #[.int .i64 al, .int .i64 ah]] w fun e w' => e = .returned (.bool false) ∧ Below w.heap.size w w') := noF h1
  have HEb : Hid (∀ w, Calls Try.prog 30 #[.agg #[.int .i64 bl, .int .i64 bh]] w fun e w' => e = .returned (.bool true) ∧ Below w.heap.size w w') := noT h2
  have hb := fun (o1 o2 o3 : Obj) => (Below.one (Below.one (Below.one (Below.refl _ w) o1) o2) o3 : Below w.heap.size w _)
  have h3' := beq_no h3
  clear h1 h2 h3
  go_enter Try.func21, Try.ntmps21
  go_wp2_with (first | (go_at_call_of 30 (Value.agg #[Value.int .i64 al, Value.int .i64 ah]); refine (HEa.out _).mono ?_; rintro e w1 ⟨rfl, hb1⟩; have A0 := At.stay (At.more (At.more (At.new w (al, ah)) _) _) hb1; have A1 := At.stay (At.more (At.new1 w (bl, bh) _) _) hb1; have A2 := At.stay (At.new2 w (0, 0) _ _) hb1; have x0 := A0.c0; have x1 := A0.c1; have y0 := A1.c0; have y1 := A1.c1; have z0 := A2.c0; have z1 := A2.c1; have z2 := A2.f0; have z3 := A2.f1) | (go_at_call_of 30 (Value.agg #[Value.int .i64 bl, Value.int .i64 bh]); refine (HEb.out _).mono ?_; rintro e w2 ⟨rfl, hb2⟩; have D0 := A0.stay hb2; have D1 := A1.stay hb2; have D2 := A2.stay hb2; have u0 := D0.c0; have u1 := D0.c1; have v0 := D1.c0; have v1 := D1.c1; have t0 := D2.c0; have t1 := D2.c1; have t2 := D2.f0; have t3 := D2.f1))
  exact bodyPost_ret (v := .tuple #[sv (0, 0), .bool false]) (by simp [results, Try.results21, go_sem, *]) rfl ⟨rfl, Below.put (Below.on (Below.on (hb _ _ _) hb1) hb2) (by omega) _ _⟩
set_option maxRecDepth 100000 in
set_option maxHeartbeats 1000000 in
theorem rdo_not (al ah bl bh : Int) (h1 : al ≤ ah) (w : World) : Calls Try.prog 21 #[.int .i64 10, sv (al, ah), sv (bl, bh)] w fun e w' => e = .returned (.tuple #[sv (tru (al == 0 && ah == 0) (!hasB (al, ah) 0)), .bool true]) ∧ Below w.heap.size w w' := by
  have HEa : Hid (∀ w, Calls Try.prog 30 #[.agg #[.int .i64 al, .int .i64 ah]] w fun e w' => e = .returned (.bool false) ∧ Below w.heap.size w w') := noF h1
  have hb := fun (o1 o2 o3 : Obj) => (Below.one (Below.one (Below.one (Below.refl _ w) o1) o2) o3 : Below w.heap.size w _)
  have HH : Hid (∀ w, Calls Try.prog 15 #[.agg #[.int .i64 al, .int .i64 ah], .int .i64 0] w fun e w' => e = .returned (.bool (hasB (al, ah) 0)) ∧ Below w.heap.size w w') := fun w => rhas_any (al, ah) 0 w
  have HT := Hid.mk' rtruth_any
  generalize hasB (al, ah) 0 = hB at *
  clear h1
  by_cases z : al = 0
  · have zb : (al == 0) = true := by simp [z]
    rw [zb]
    clear z
    go_enter Try.func21, Try.ntmps21
    go_upto_region 4 with (go_at_call_of 30 (Value.agg #[Value.int .i64 al, Value.int .i64 ah]); refine (HEa.out _).mono ?_; rintro e w1 ⟨rfl, hb1⟩; have A0 := At.stay (At.more (At.more (At.new w (al, ah)) _) _) hb1; have A1 := At.stay (At.more (At.new1 w (bl, bh) _) _) hb1; have A2 := At.stay (At.new2 w (0, 0) _ _) hb1; have x0 := A0.c0; have x1 := A0.c1; have y0 := A1.c0; have y1 := A1.c1; have z0 := A2.c0; have z1 := A2.c1; have z2 := A2.f0; have z3 := A2.f1)
    have BB := Below.on (hb _ _ _) hb1
    have r0 := A0.r0; have r1 := A0.r1
    simp only at r0 r1
    clear x0 x1 y0 y1 z0 z1 z2 z3 A1
    refine region_below_tail 12 (by kernel_rfl) (by kernel_rfl) ?_
    simp only [List.take_succ_cons, List.take_zero, List.drop_succ_cons, List.drop_zero]
    repeat (go_big_quiet_step (first | (go_at_call 15; with_reducible exact Calls.regrown_of (HH.out _)) | (go_at_call 39; with_reducible exact Calls.regrown_of (HT.out _ _ _))))
    refine wpQuiet_nil ?_
    intro _ hw'
    obtain ⟨⟨dq, osq⟩, hw''⟩ := hw'
    subst hw''
    have B5 : Below w1.heap.size w1 (grow (redrawn w1 dq) osq) := below_regrown _ dq osq
    replace A2 := A2.stay B5
    replace BB := Below.on BB B5
    clear B5 r0 r1 hb hb1 A0
    simp only
    generalize grow (redrawn w1 dq) osq = W2 at *
    have t0 := A2.c0; have t1 := A2.c1; have t2 := A2.f0; have t3 := A2.f1
    go_wp2_with fail
    exact bodyPost_ret (v := .tuple #[sv (tru _ _), .bool true]) (by simp [results, Try.results21, go_sem, *]) rfl ⟨rfl, Below.put BB (by omega) _ _⟩
  · have zb := beq_no z
    rw [zb]
    clear z
    go_enter Try.func21, Try.ntmps21
    go_upto_region 4 with (go_at_call_of 30 (Value.agg #[Value.int .i64 al, Value.int .i64 ah]); refine (HEa.out _).mono ?_; rintro e w1 ⟨rfl, hb1⟩; have A0 := At.stay (At.more (At.more (At.new w (al, ah)) _) _) hb1; have A1 := At.stay (At.more (At.new1 w (bl, bh) _) _) hb1; have A2 := At.stay (At.new2 w (0, 0) _ _) hb1; have x0 := A0.c0; have x1 := A0.c1; have y0 := A1.c0; have y1 := A1.c1; have z0 := A2.c0; have z1 := A2.c1; have z2 := A2.f0; have z3 := A2.f1)
    have BB := Below.on (hb _ _ _) hb1
    have r0 := A0.r0; have r1 := A0.r1
    simp only at r0 r1
    clear x0 x1 y0 y1 z0 z1 z2 z3 A1
    refine region_below_tail 12 (by kernel_rfl) (by kernel_rfl) ?_
    simp only [List.take_succ_cons, List.take_zero, List.drop_succ_cons, List.drop_zero]
    repeat (go_big_quiet_step (first | (go_at_call 15; with_reducible exact Calls.regrown_of (HH.out _)) | (go_at_call 39; with_reducible exact Calls.regrown_of (HT.out _ _ _))))
    refine wpQuiet_nil ?_
    intro _ hw'
    obtain ⟨⟨dq, osq⟩, hw''⟩ := hw'
    subst hw''
    have B5 : Below w1.heap.size w1 (grow (redrawn w1 dq) osq) := below_regrown _ dq osq
    replace A2 := A2.stay B5
    replace BB := Below.on BB B5
    clear B5 r0 r1 hb hb1 A0
    simp only
    generalize grow (redrawn w1 dq) osq = W2 at *
    have t0 := A2.c0; have t1 := A2.c1; have t2 := A2.f0; have t3 := A2.f1
    go_wp2_with fail
    exact bodyPost_ret (v := .tuple #[sv (tru _ _), .bool true]) (by simp [results, Try.results21, go_sem, *]) rfl ⟨rfl, Below.put BB (by omega) _ _⟩
end Go.Proofs.Ytbepapbfohfdkaa
