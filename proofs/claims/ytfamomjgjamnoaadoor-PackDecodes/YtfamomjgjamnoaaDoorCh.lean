/- What is wrong with an instruction: checkIns. -/
import Derived.Test.YtfamomjgjamnoaaDoorCg
namespace Go.Proofs.YtfamomjgjamnoaaDoor
open Go.RowKit Go.Sort

theorem ix_0 (a b c : Int) (w : World) : (Instr.index 104 (.agg #[.int .i64 a, .int .i64 b, .int .i64 c]) (.int .i64 0)).run Tryd.prog w = .ok (.int .i64 a) w := by kernel_rfl
theorem ix_1 (a b c : Int) (w : World) : (Instr.index 104 (.agg #[.int .i64 a, .int .i64 b, .int .i64 c]) (.int .i64 1)).run Tryd.prog w = .ok (.int .i64 b) w := by kernel_rfl
theorem ix_2 (a b c : Int) (w : World) : (Instr.index 104 (.agg #[.int .i64 a, .int .i64 b, .int .i64 c]) (.int .i64 2)).run Tryd.prog w = .ok (.int .i64 c) w := by kernel_rfl
set_option maxRecDepth 100000 in
set_option maxHeartbeats 4000000 in
theorem checkIns_any (m : Mo) (f : Fn) (x : Is) (w : World) (ht : Tab w) (hm : Fns w m.fa m.funcs) :
    Calls Tryd.prog 44 #[m.val, f.val, x.val] w fun e w' => e = .returned (.int .i64 (insZ m f x)) ∧ Below w.heap.size w w' := by
  have hb := below3 w (oM m) (oF f) (oX x)
  have f2 := cell_f (w := w) (a := oM m) (f := f) (c := oX x) (j := 2) rfl
  have f0 := cell_f (w := w) (a := oM m) (f := f) (c := oX x) (j := 0) rfl
  have f1 := cell_f (w := w) (a := oM m) (f := f) (c := oX x) (j := 1) rfl
  have f3 := cell_f (w := w) (a := oM m) (f := f) (c := oX x) (j := 3) rfl
  have f4 := cell_f (w := w) (a := oM m) (f := f) (c := oX x) (j := 4) rfl
  have m0 := cell_m (w := w) (m := m) (b := oF f) (c := oX x) (j := 0) rfl
  have m1 := cell_m (w := w) (m := m) (b := oF f) (c := oX x) (j := 1) rfl
  have x0 := cell_x (w := w) (a := oM m) (b := oF f) (x := x) (j := 0) rfl
  have x1 := cell_x (w := w) (a := oM m) (b := oF f) (x := x) (j := 1) rfl
  have x2 := cell_x (w := w) (a := oM m) (b := oF f) (x := x) (j := 2) rfl
  have x3 := cell_x (w := w) (a := oM m) (b := oF f) (x := x) (j := 3) rfl
  have x4 := cell_x (w := w) (a := oM m) (b := oF f) (x := x) (j := 4) rfl
  have HK := Hid.mk' (known_any x.op)
  have HR := Hid.mk' (rowOf_any x.op _ (ht.stay hb))
  have HF := Hid.mk' (fields_any x)
  have HN : Hid (∀ w', Below w.heap.size w w' → Calls Tryd.prog 67 #[m.val, f.val, x.val] w' fun e w'' => e = .returned (.int .i64 (numZ m f x)) ∧ Below w'.heap.size w' w'') := fun w' hb => checkN_any m f x w' (ht.stay hb) (hm.stay hb)
  have HI : Hid (insZ m f x = if knB x.op = false then 60 else if regZ (bt (rwOf x.op).regs 0) x.a f.regs ≠ 0 then regZ (bt (rwOf x.op).regs 0) x.a f.regs else if regZ (bt (rwOf x.op).regs 1) x.b f.regs ≠ 0 then regZ (bt (rwOf x.op).regs 1) x.b f.regs else
    if regZ (bt (rwOf x.op).regs 2) x.c f.regs ≠ 0 then regZ (bt (rwOf x.op).regs 2) x.c f.regs else numZ m f x) := (rfl : insZ m f x = _)
  clear ht hm
  unfold Rw.val at HR
  generalize rwOf x.op = r at *
  obtain ⟨r0, r1, r2, r3, r4, r5⟩ := r
  simp only at HR HI
  generalize insZ m f x = z at *
  generalize numZ m f x = nz at *
  generalize knB x.op = kn at *
  unfold Mo.val Fn.val Is.val at HN
  unfold Is.val at HF
  unfold Mo.val Fn.val Is.val
  have hfd := fld_row2
  cases kn
  · have hz : z = 60 := by rw [HI.out]; rfl
    subst hz
    clear HI
    go_enter Tryd.func44, Tryd.ntmps44
    go_wp2_with (go_at_call 64; refine (HK.out _).mono ?_; rintro e w1 ⟨rfl, rfl⟩)
    go_ret
    exact ⟨rfl, hb⟩
  · have hi := HI.out
    rw [if_neg (by decide)] at hi
    have HZ0 : Hid (∀ c, regZ (bt r2 0) x.a f.regs = c → c ≠ 0 → z = c) := fun c h h' => by rw [hi, h, if_pos h']
    have HZ1 : Hid (regZ (bt r2 0) x.a f.regs = 0 → ∀ c, regZ (bt r2 1) x.b f.regs = c → c ≠ 0 → z = c) := fun h0 c h h' => by rw [hi, h0, if_neg (by decide), h, if_pos h']
    have HZ2 : Hid (regZ (bt r2 0) x.a f.regs = 0 → regZ (bt r2 1) x.b f.regs = 0 → ∀ c, regZ (bt r2 2) x.c f.regs = c → c ≠ 0 → z = c) := fun h0 h1 c h h' => by rw [hi, h0, if_neg (by decide), h1, if_neg (by decide), h, if_pos h']
    have HZ3 : Hid (regZ (bt r2 0) x.a f.regs = 0 → regZ (bt r2 1) x.b f.regs = 0 → regZ (bt r2 2) x.c f.regs = 0 → z = nz) := fun h0 h1 h2 => by rw [hi, h0, if_neg (by decide), h1, if_neg (by decide), h2, if_neg (by decide)]
    clear HI hi
    go_enter Tryd.func44, Tryd.ntmps44
    go_wp2_with (first | (go_at_call 64; refine (HK.out _).mono ?_; rintro e w1 ⟨rfl, rfl⟩) | (go_at_call 65; refine HR.out.mono ?_; rintro e w2 ⟨rfl, hb2⟩; replace f0 := cell_kept_below f0 hb2; replace f1 := cell_kept_below f1 hb2; replace f2 := cell_kept_below f2 hb2; replace f3 := cell_kept_below f3 hb2; replace f4 := cell_kept_below f4 hb2; replace m0 := cell_kept_below m0 hb2; replace m1 := cell_kept_below m1 hb2; replace x0 := cell_kept_below x0 hb2; replace x1 := cell_kept_below x1 hb2; replace x2 := cell_kept_below x2 hb2; replace x3 := cell_kept_below x3 hb2; replace x4 := cell_kept_below x4 hb2; replace hb := Below.on hb hb2; clear hb2) | (go_at_call 66; refine (HF.out _).mono ?_; rintro e w3 ⟨rfl, hb3⟩; replace f0 := cell_kept_below f0 hb3; replace f1 := cell_kept_below f1 hb3; replace f2 := cell_kept_below f2 hb3; replace f3 := cell_kept_below f3 hb3; replace f4 := cell_kept_below f4 hb3; replace m0 := cell_kept_below m0 hb3; replace m1 := cell_kept_below m1 hb3; replace x0 := cell_kept_below x0 hb3; replace x1 := cell_kept_below x1 hb3; replace x2 := cell_kept_below x2 hb3; replace x3 := cell_kept_below x3 hb3; replace x4 := cell_kept_below x4 hb3; replace hb := Below.on hb hb3; clear hb3))
    go_loop [21] (fun p => (p = .int .i64 0) ∨ (p = .int .i64 1 ∧ regZ (bt r2 0) x.a f.regs = 0) ∨ (p = .int .i64 2 ∧ regZ (bt r2 0) x.a f.regs = 0 ∧ regZ (bt r2 1) x.b f.regs = 0) ∨ (p = .int .i64 3 ∧ regZ (bt r2 0) x.a f.regs = 0 ∧ regZ (bt r2 1) x.b f.regs = 0 ∧ regZ (bt r2 2) x.c f.regs = 0)) (fun p => 3 - (intOf p).toNat)
    case atStart => exact .inl rfl
    case round =>
    have hi0 := ix_0
    have hi1 := ix_1
    have hi2 := ix_2
    rcases hrel with rfl | ⟨rfl, hz0⟩ | ⟨rfl, hz0, hz1⟩ | ⟨rfl, hz0, hz1, hz2⟩
    · cases hB : bt r2 0
      · have hB' : (bits .and .i64 r2 1 != 0) = false := hB
        by_cases h0 : x.a = 0
        · have hz : regZ false x.a f.regs = 0 := by simp [regZ, h0]
          have hq : (x.a != 0) = false := bne_no h0
          clear h0 hB
          · 
            go_wp2_with fail
            go_round
            case rel => exact .inr (.inl ⟨rfl, hz⟩)
            case measure => simp [intOf]
        · have HE : Hid (z = 62) := HZ0.out  62 (by rw [hB]; simp [regZ, h0]) (by decide)
          have hq : (x.a != 0) = true := bne_of h0
          clear h0 hB
          go_wp2_with fail
          go_ret
          exact ⟨ret_int HE.out.symm, hb⟩
      · have hB' : (bits .and .i64 r2 1 != 0) = true := hB
        by_cases h1 : x.a < 0
        · have HE : Hid (z = 61) := HZ0.out  61 (by rw [hB]; simp [regZ, h1]) (by decide)
          clear hB
          go_wp2_with fail
          go_ret
          exact ⟨ret_int HE.out.symm, hb⟩
        · by_cases h2 : f.regs ≤ x.a
          · have HE : Hid (z = 61) := HZ0.out  61 (by rw [hB]; simp [regZ, h2]) (by decide)
            clear hB
            go_wp2_with fail
            go_ret
            exact ⟨ret_int HE.out.symm, hb⟩
          · have hz : regZ true x.a f.regs = 0 := by simp [regZ, h1, h2]
            clear hB
            go_wp2_with fail
            go_round
            case rel => exact .inr (.inl ⟨rfl, hz⟩)
            case measure => simp [intOf]
    · cases hB : bt r2 1
      · have hB' : (bits .and .i64 r2 2 != 0) = false := hB
        by_cases h0 : x.b = 0
        · have hz : regZ false x.b f.regs = 0 := by simp [regZ, h0]
          have hq : (x.b != 0) = false := bne_no h0
          clear h0 hB
          · 
            go_wp2_with fail
            go_round
            case rel => exact .inr (.inr (.inl ⟨rfl, hz0, hz⟩))
            case measure => simp [intOf]
        · have HE : Hid (z = 62) := HZ1.out hz0 62 (by rw [hB]; simp [regZ, h0]) (by decide)
          have hq : (x.b != 0) = true := bne_of h0
          clear h0 hB
          go_wp2_with fail
          go_ret
          exact ⟨ret_int HE.out.symm, hb⟩
      · have hB' : (bits .and .i64 r2 2 != 0) = true := hB
        by_cases h1 : x.b < 0
        · have HE : Hid (z = 61) := HZ1.out hz0 61 (by rw [hB]; simp [regZ, h1]) (by decide)
          clear hB
          go_wp2_with fail
          go_ret
          exact ⟨ret_int HE.out.symm, hb⟩
        · by_cases h2 : f.regs ≤ x.b
          · have HE : Hid (z = 61) := HZ1.out hz0 61 (by rw [hB]; simp [regZ, h2]) (by decide)
            clear hB
            go_wp2_with fail
            go_ret
            exact ⟨ret_int HE.out.symm, hb⟩
          · have hz : regZ true x.b f.regs = 0 := by simp [regZ, h1, h2]
            clear hB
            go_wp2_with fail
            go_round
            case rel => exact .inr (.inr (.inl ⟨rfl, hz0, hz⟩))
            case measure => simp [intOf]
    · cases hB : bt r2 2
      · have hB' : (bits .and .i64 r2 4 != 0) = false := hB
        by_cases h0 : x.c = 0
        · have hz : regZ false x.c f.regs = 0 := by simp [regZ, h0]
          have hq : (x.c != 0) = false := bne_no h0
          clear h0 hB
          · 
            go_wp2_with fail
            go_round
            case rel => exact .inr (.inr (.inr (⟨rfl, hz0, hz1, hz⟩)))
            case measure => simp [intOf]
        · have HE : Hid (z = 62) := HZ2.out hz0 hz1 62 (by rw [hB]; simp [regZ, h0]) (by decide)
          have hq : (x.c != 0) = true := bne_of h0
          clear h0 hB
          go_wp2_with fail
          go_ret
          exact ⟨ret_int HE.out.symm, hb⟩
      · have hB' : (bits .and .i64 r2 4 != 0) = true := hB
        by_cases h1 : x.c < 0
        · have HE : Hid (z = 61) := HZ2.out hz0 hz1 61 (by rw [hB]; simp [regZ, h1]) (by decide)
          clear hB
          go_wp2_with fail
          go_ret
          exact ⟨ret_int HE.out.symm, hb⟩
        · by_cases h2 : f.regs ≤ x.c
          · have HE : Hid (z = 61) := HZ2.out hz0 hz1 61 (by rw [hB]; simp [regZ, h2]) (by decide)
            clear hB
            go_wp2_with fail
            go_ret
            exact ⟨ret_int HE.out.symm, hb⟩
          · have hz : regZ true x.c f.regs = 0 := by simp [regZ, h1, h2]
            clear hB
            go_wp2_with fail
            go_round
            case rel => exact .inr (.inr (.inr (⟨rfl, hz0, hz1, hz⟩)))
            case measure => simp [intOf]
    · have HE : Hid (z = nz) := HZ3.out hz0 hz1 hz2
      clear hz0 hz1 hz2 HZ0 HZ1 HZ2 HZ3
      go_wp2_with (go_at_call 67; refine (HN.out _ hb).mono ?_; rintro e w4 ⟨rfl, hb4⟩)
      go_ret
      exact ⟨ret_int HE.out.symm, Below.on hb hb4⟩
end Go.Proofs.YtfamomjgjamnoaaDoor
