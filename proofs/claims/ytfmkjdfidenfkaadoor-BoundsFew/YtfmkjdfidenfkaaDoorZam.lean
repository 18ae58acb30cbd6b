/- Bounds: a quotient, a rest. Bounds: a place in memory. Bounds: a call's arguments. -/
import Derived.Test.YtfmkjdfidenfkaaDoorZal
namespace Go.Proofs.YtfmkjdfidenfkaaDoor
open Go.RowKit
open S8 (meetB meetS joinS widS belA belB belC allS doR doB doS emB sv do_any)

/-- What a division leaves. -/
def divL (l : List Sp) (x : Is) : List Sp := if doB x.op (gS l x.b.toNat) (gS l x.c.toNat) then (wozL l x.c.toNat).set x.a.toNat (doR x.op (gS l x.b.toNat) (gS l x.c.toNat)) else l
def divB (l : List Sp) (x : Is) : Bool := doB x.op (gS l x.b.toNat) (gS l x.c.toNat)
theorem wozL_len (l : List Sp) (a : Nat) : (wozL l a).length = l.length := by unfold wozL; split <;> simp

set_option maxRecDepth 100000 in
set_option maxHeartbeats 8000000 in
theorem divide_any (l : List Sp) (g c : Nat) (x : Is) (ho : RgOk l) (ha0 : 0 ≤ x.a) (ha : x.a.toNat < l.length) (hb0 : 0 ≤ x.b) (hb : x.b.toNat < l.length) (hc0 : 0 ≤ x.c) (hc : x.c.toNat < l.length) (w : World) (hr : RgB w g l) : Calls Tryd.prog 66 #[.slice (some ⟨g, 0, none⟩) l.length c, x.val] w (RgP w g (divL l x) (divB l x)) := by
  have HM := Hid.mk' (do_any x.op (gS l x.b.toNat) (gS l x.c.toNat) (gS_ok ho hb) (gS_ok ho hc))
  have HZ : Hid (∀ W, RgB W g l → Calls Tryd.prog 81 #[.slice (some ⟨g, 0, none⟩) l.length c, .int .i64 x.c] W (RgP W g (wozL l x.c.toNat) (wozB (gS l x.c.toNat)))) := fun W hW => by
    have := woz_any l g c x.c.toNat hc W hW
    rwa [Int.toNat_of_nonneg hc0] at this
  obtain ⟨op, xa, xb, xc, xn⟩ := x
  simp only at ha0 ha hb0 hb hc0 hc HM HZ
  obtain ⟨a, rfl⟩ := Int.eq_ofNat_of_zero_le ha0
  obtain ⟨b, rfl⟩ := Int.eq_ofNat_of_zero_le hb0
  obtain ⟨k, rfl⟩ := Int.eq_ofNat_of_zero_le hc0
  simp only [Int.toNat_natCast] at ha hb hc HM HZ
  obtain ⟨L2, hL2⟩ : ∃ y, divL l ⟨op, a, b, k, xn⟩ = y := ⟨_, rfl⟩
  obtain ⟨b2, hb2⟩ : ∃ y, divB l ⟨op, a, b, k, xn⟩ = y := ⟨_, rfl⟩
  rw [hL2, hb2]
  unfold divL at hL2
  unfold divB at hb2
  simp only [Int.toNat_natCast] at hL2 hb2
  rw [hb2] at hL2 HM
  generalize doR op (gS l b) (gS l k) = M at *
  have HL2 := Hid.mk' hL2
  clear hL2 hb2 ha0 hb0 hc0
  have hX := is_new w ⟨op, a, b, k, xn⟩
  have B := Below.one (Below.refl _ w) (.cells #[.int .i64 op, .int .i64 (a : Int), .int .i64 (b : Int), .int .i64 (k : Int), .int .i64 xn] 57)
  simp only at hX
  have hbl : (b : Int) < (l.length : Int) := by omega
  have hkl : (k : Int) < (l.length : Int) := by omega
  have hal : (a : Int) < (l.length : Int) := by omega
  have hR := Hid.mk' (hr.stay B)
  have HB := Hid.mk' B
  have HX := Hid.mk' hX
  have x0 := cell_of_obj hX (j := 0) (v := .int .i64 op) rfl
  have x1 := cell_of_obj hX (j := 1) (v := .int .i64 (a : Int)) rfl
  have x2 := cell_of_obj hX (j := 2) (v := .int .i64 (b : Int)) rfl
  have x3 := cell_of_obj hX (j := 3) (v := .int .i64 (k : Int)) rfl
  have hgw : g < w.heap.size := hr.lt
  clear hX B hr
  unfold Is.val
  simp only
  go_enter Tryd.func66, Tryd.ntmps66
  go_upto_region 1 with fail
  have hws : (w.alloc (.cells #[.int .i64 op, .int .i64 (a : Int), .int .i64 (b : Int), .int .i64 (k : Int), .int .i64 xn] 57)).heap.size = w.heap.size + 1 := by simp
  generalize w.alloc (.cells #[.int .i64 op, .int .i64 (a : Int), .int .i64 (b : Int), .int .i64 (k : Int), .int .i64 xn] 57) = W at *
  have c0 := hR.out.c0 hb
  have c1 := hR.out.c1 hb
  have d0 := hR.out.c0 hc
  have d1 := hR.out.c1 hc
  have ne1 : ¬ W.heap.size = g := by omega
  have ne2 : ¬ g = W.heap.size := by omega
  have ne3 : ¬ W.heap.size = w.heap.size := by omega
  have ne4 : ¬ w.heap.size = W.heap.size := by omega
  have HWs := Hid.mk' hws
  clear hws
  go_cut [5, 6] from 7 to 33 (fun t5 t6 wx => ∃ G : Nat, t5 = .pointer (some ⟨G, 0, none⟩) ∧ t6 = .bool b2 ∧ w.heap.size < G ∧ wx.heap[G]? = some (.cells #[.int .i64 M.1, .int .i64 M.2] 54) ∧ Below W.heap.size W wx)
  case first =>
    go_region_held3 (fun w' => w'.cell? ⟨g, b * 2, none⟩ = some (.int .i64 (gS l b).1) ∧ w'.cell? ⟨g, b * 2 + 1, none⟩ = some (.int .i64 (gS l b).2) ∧ w'.cell? ⟨g, k * 2, none⟩ = some (.int .i64 (gS l k).1) ∧ w'.cell? ⟨g, k * 2 + 1, none⟩ = some (.int .i64 (gS l k).2) ∧ w'.cell? ⟨w.heap.size, 0, none⟩ = some (.int .i64 op) ∧ w'.cell? ⟨w.heap.size, 2, none⟩ = some (.int .i64 (b : Int)) ∧ w'.cell? ⟨w.heap.size, 3, none⟩ = some (.int .i64 (k : Int))) (go_keep) (first | (go_at_call 82; refine (HM.out _).mono ?_; rintro e w5 ⟨rfl, hb5⟩; have B5 := Below.on (Below.drew (Below.refl _ W)) hb5; have y0 := (hR.out.stay B5).c0 hb; have y1 := (hR.out.stay B5).c1 hb; have y2 := (hR.out.stay B5).c0 hc; have y3 := (hR.out.stay B5).c1 hc; have y4 := cell_kept_below x0 B5; have y5 := cell_kept_below x2 B5; have y6 := cell_kept_below x3 B5; have l5 : g < w5.heap.size := S8.lt_of_cell y0; have l6 : w.heap.size < w5.heap.size := S8.lt_of_cell y4) | (go_at_call 82; refine (HM.out _).mono ?_; rintro e w5 ⟨rfl, hb5⟩; have B5 := Below.on (Below.drew (Below.one (Below.refl _ W) (.cells #[.int .i64 0, .int .i64 0] 54))) hb5; have y0 := (hR.out.stay B5).c0 hb; have y1 := (hR.out.stay B5).c1 hb; have y2 := (hR.out.stay B5).c0 hc; have y3 := (hR.out.stay B5).c1 hc; have y4 := cell_kept_below x0 B5; have y5 := cell_kept_below x2 B5; have y6 := cell_kept_below x3 B5; have N0 := ((S8.At.new W (0, 0)).stay (Below.drew (Below.refl _ _))).stay hb5; have k0 : w5.cell? ⟨W.heap.size, 0, none⟩ = some (.int .i64 0) := N0.c0; have k1 : w5.cell? ⟨W.heap.size, 1, none⟩ = some (.int .i64 0) := N0.c1; have k2 := N0.f0; have k3 := N0.f1))
    · go_wp2_with fail
      go_meet
      case rel => exact ⟨w5.heap.size, rfl, rfl, by have := B5.size; have := HWs.out; omega, heap_alloc_new _ _, Below.one B5 _⟩
    · go_wp2_with fail
      go_meet
      case rel => exact ⟨W.heap.size, rfl, rfl, by have := HWs.out; omega, N0.put M, (B5.setCell (Nat.le_refl _) _).setCell (Nat.le_refl _) _⟩
  case rest =>
    obtain ⟨G, rfl, rfl, hG, hM, hB⟩ := hcut
    have hR2 := hR.out.stay hB
    have HBW := Hid.mk' (Below.on HB.out hB)
    have hxa := cell_kept_below x1 hB
    have hxc := cell_kept_below x3 hB
    have HX2 := Hid.mk' ((hB.block _ (Array.getElem?_eq_some_iff.1 HX.out).1).trans HX.out)
    have HM2 := Hid.mk' hM
    have HG := Hid.mk' hG
    clear x0 x1 x2 x3 c0 c1 d0 d1 ne1 ne2 ne3 ne4 hB hM hG
    cases b2 with
    | false =>
      have h1 := HL2.out
      rw [if_neg (by decide)] at h1
      have HF : Hid (RgP w g L2 false (.returned (.bool false)) wc) := ⟨rfl, h1 ▸ hR2, OnlyB.of_below HBW.out⟩
      clear h1
      go_wp2_with fail
      exact bodyPost_ret (v := .bool false) (by simp [results, Tryd.results66, go_sem, *]) rfl HF.out
    | true =>
      have h1 := HL2.out
      rw [if_pos rfl] at h1
      have HZ2 := Hid.mk' (HZ.out wc hR2)
      go_upto_region 4 with fail
      go_wp2_with (go_at_call 81; refine HZ2.out.mono ?_; rintro e w6 ⟨rfl, hr6, ho6⟩; have hM6 := ho6.blk HM2.out (by have := HG.out; omega); have hX6 := ho6.blk HX2.out (by omega); have m0 := cell_of_obj hM6 (j := 0) (v := .int .i64 M.1) rfl; have m1 := cell_of_obj hM6 (j := 1) (v := .int .i64 M.2) rfl; have x6 := cell_of_obj hX6 (j := 1) (v := .int .i64 (a : Int)) rfl; have ha6 : a < (wozL l k).length := (by rw [wozL_len]; exact ha); have y0 := hr6.c0 ha6; have y1 := hr6.c1 ha6; have z := fun j => hr6.fz j; have HF : Hid (RgP w g L2 true (.returned (.bool true)) ((w6.setCell ⟨g, a * 2, none⟩ (.int .i64 M.1)).setCell ⟨g, a * 2 + 1, none⟩ (.int .i64 M.2))) := (⟨rfl, h1 ▸ hr6.put a M, ((OnlyB.of_below HBW.out).trans ho6).put _ _ _ _⟩); clear hM6 hX6 hr6 ho6)
      exact bodyPost_ret (v := .bool true) (by simp [results, Tryd.results66, go_sem, *]) rfl HF.out
end Go.Proofs.YtfmkjdfidenfkaaDoor
namespace Go.Proofs.YtfmkjdfidenfkaaDoor
open Go.RowKit
open S8 (meetB meetS joinS widS belA belB belC allS doR doB doS emB sv all_any)

/-- The numbers whose sum with n is the number of a word. -/
def plcS (n words : Int) : Sp := if n = -9223372036854775808 then (1, 0) else (-n, if -n - 1 ≤ 9223372036854775807 - words then -n - 1 + words else 9223372036854775807)
/-- What a load or a store leaves. -/
def accL (l : List Sp) (x : Is) (words : Int) : List Sp := if meetB (gS l x.b.toNat) (plcS x.n words) then (if x.op = 11 then (l.set x.b.toNat (meetS (gS l x.b.toNat) (plcS x.n words))).set x.a.toNat allS else l.set x.b.toNat (meetS (gS l x.b.toNat) (plcS x.n words))) else l.set x.b.toNat (meetS (gS l x.b.toNat) (plcS x.n words))
def accB (l : List Sp) (x : Is) (words : Int) : Bool := meetB (gS l x.b.toNat) (plcS x.n words)

set_option maxRecDepth 100000 in
set_option maxHeartbeats 4000000 in
theorem places_any (n words : Int) (hn : I64 n) (hw0 : 0 ≤ words) (hw1 : words ≤ 4096) (w : World) : Calls Tryd.prog 83 #[.int .i64 n, .int .i64 words] w fun e w' => e = .returned (sv (plcS n words)) ∧ Below w.heap.size w w' := by
  unfold I64 at hn
  unfold plcS
  by_cases h0 : n = -9223372036854775808
  · subst h0
    rw [if_pos rfl]
    go_enter Tryd.func83, Tryd.ntmps83
    go_wp2_with fail
    exact bodyPost_ret (v := sv (1, 0)) (by simp [results, Tryd.results83, go_sem, *]) rfl ⟨rfl, Below.one (Below.refl _ _) _⟩
  · rw [if_neg h0]
    have q0 : (n == -9223372036854775808) = false := beq_no h0
    have w1 : IntKind.i64.wrap (-n) = -n := by rw [IntKind.wrap_i64]; omega
    have w2 : IntKind.i64.wrap (-n - 1) = -n - 1 := by rw [IntKind.wrap_i64]; omega
    have w3 : IntKind.i64.wrap (9223372036854775807 - words) = 9223372036854775807 - words := by rw [IntKind.wrap_i64]; omega
    have w5 : IntKind.i64.wrap (-n - 1 + 1) = -n := by rw [IntKind.wrap_i64]; omega
    have v1 : wrap64 (-n) = -n := by unfold wrap64; omega
    have v2 : wrap64 (-n - 1) = -n - 1 := by unfold wrap64; omega
    have v3 : wrap64 (9223372036854775807 - words) = 9223372036854775807 - words := by unfold wrap64; omega
    have v5 : wrap64 (-n - 1 + 1) = -n := by unfold wrap64; omega
    by_cases h1 : -n - 1 ≤ 9223372036854775807 - words
    · rw [if_pos h1]
      have q1 : decide (-n - 1 ≤ 9223372036854775807 - words) = true := decide_eq_true h1
      have w4 : IntKind.i64.wrap (-n - 1 + words) = -n - 1 + words := by rw [IntKind.wrap_i64]; omega
      have v4 : wrap64 (-n - 1 + words) = -n - 1 + words := by unfold wrap64; omega
      clear h1 hw0 hw1 hn
      go_enter Tryd.func83, Tryd.ntmps83
      go_wp2_with fail
      exact bodyPost_ret (v := sv (-n, -n - 1 + words)) (by simp [results, Tryd.results83, go_sem, *]) rfl ⟨rfl, Below.one (Below.refl _ _) _⟩
    · rw [if_neg h1]
      have q1 : decide (-n - 1 ≤ 9223372036854775807 - words) = false := decide_eq_false h1
      clear hw0 hw1 hn
      go_enter Tryd.func83, Tryd.ntmps83
      go_wp2_with fail
      exact bodyPost_ret (v := sv (-n, 9223372036854775807)) (by simp [results, Tryd.results83, go_sem, *]) rfl ⟨rfl, Below.one (Below.refl _ _) _⟩
set_option maxRecDepth 100000 in
set_option maxHeartbeats 8000000 in
theorem access_any (l : List Sp) (g c : Nat) (x : Is) (words : Int) (hn : I64 x.n) (hw0 : 0 ≤ words) (hw1 : words ≤ 4096) (ha0 : 0 ≤ x.a) (ha : x.a.toNat < l.length) (hb0 : 0 ≤ x.b) (hb : x.b.toNat < l.length) (w : World) (hr : RgB w g l) : Calls Tryd.prog 67 #[.slice (some ⟨g, 0, none⟩) l.length c, x.val, .int .i64 words] w (RgP w g (accL l x words) (accB l x words)) := by
  have HP := Hid.mk' (places_any x.n words hn hw0 hw1)
  obtain ⟨op, xa, xb, xc, xn⟩ := x
  simp only at ha0 ha hb0 hb HP hn
  obtain ⟨a, rfl⟩ := Int.eq_ofNat_of_zero_le ha0
  obtain ⟨b, rfl⟩ := Int.eq_ofNat_of_zero_le hb0
  simp only [Int.toNat_natCast] at ha hb
  have HK := Hid.mk' (fun W hW => keep_any l g c b (plcS xn words) hb W hW)
  obtain ⟨L2, hL2⟩ : ∃ y, accL l ⟨op, a, b, xc, xn⟩ words = y := ⟨_, rfl⟩
  obtain ⟨b2, hb2⟩ : ∃ y, accB l ⟨op, a, b, xc, xn⟩ words = y := ⟨_, rfl⟩
  rw [hL2, hb2]
  unfold accL at hL2
  unfold accB at hb2
  simp only [Int.toNat_natCast] at hL2 hb2
  rw [hb2] at hL2
  generalize hpl : plcS xn words = pl at *
  have hk : ∀ W, RgB W g l → Calls Tryd.prog 68 #[.slice (some ⟨g, 0, none⟩) l.length c, .int .i64 b, sv pl] W (RgP W g (l.set b (meetS (gS l b) pl)) b2) := fun W hW => by
    have := HK.out W hW
    rwa [hb2] at this
  replace HK := Hid.mk' hk
  have hlen : (l.set b (meetS (gS l b) pl)).length = l.length := by simp
  generalize l.set b (meetS (gS l b) pl) = l1 at *
  have HL2 := Hid.mk' hL2
  have HLE := Hid.mk' hlen
  have hX := is_new w ⟨op, a, b, xc, xn⟩
  have B := Below.one (Below.refl _ w) (.cells #[.int .i64 op, .int .i64 (a : Int), .int .i64 (b : Int), .int .i64 xc, .int .i64 xn] 57)
  simp only at hX
  have hal : (a : Int) < (l.length : Int) := by omega
  have hR := Hid.mk' (hr.stay B)
  have HB := Hid.mk' B
  have HX := Hid.mk' hX
  have x0 := cell_of_obj hX (j := 0) (v := .int .i64 op) rfl
  have x2 := cell_of_obj hX (j := 2) (v := .int .i64 (b : Int)) rfl
  have x4 := cell_of_obj hX (j := 4) (v := .int .i64 xn) rfl
  have hgw : g < w.heap.size := hr.lt
  clear hX B hr hL2 hlen hk hb2 hpl ha0 hb0 hw0 hw1 hn hb
  unfold Is.val
  simp only
  go_enter Tryd.func67, Tryd.ntmps67
  go_upto_region 1 with fail
  generalize w.alloc (.cells #[.int .i64 op, .int .i64 (a : Int), .int .i64 (b : Int), .int .i64 xc, .int .i64 xn] 57) = W at *
  have hwX : w.heap.size < W.heap.size := (Array.getElem?_eq_some_iff.1 HX.out).1
  have HNE := Hid.mk' (show w.heap.size ≠ g by omega)
  go_cut [14, 15] from 7 to 23 (fun _ t15 wx => t15 = .bool (!b2) ∧ RgB wx g l1 ∧ OnlyB g W wx)
  case first =>
    go_region_held3 (fun w' => w'.cell? ⟨w.heap.size, 2, none⟩ = some (.int .i64 (b : Int)) ∧ w'.cell? ⟨w.heap.size, 4, none⟩ = some (.int .i64 xn)) (go_keep) (first | (go_at_call 83; refine (HP.out _).mono ?_; rintro e w5 ⟨rfl, hb5⟩; have B5 := Below.on (Below.drew (Below.refl _ W)) hb5; have y2 := cell_kept_below x2 B5; have y4 := cell_kept_below x4 B5; have hr5 := hR.out.stay B5; have X5 := (B5.block _ (Array.getElem?_eq_some_iff.1 HX.out).1).trans HX.out) | (go_at_call 68; refine (HK.out _ hr5).mono ?_; rintro e w6 ⟨rfl, hr6, ho6⟩; have X6 := ho6.blk X5 HNE.out; have z2 := cell_of_obj X6 (j := 2) (v := .int .i64 (b : Int)) rfl; have z4 := cell_of_obj X6 (j := 4) (v := .int .i64 xn) rfl))
    go_wp2_with fail
    go_meet
    case rel => exact ⟨rfl, hr6, (OnlyB.of_below B5).trans ho6⟩
  case rest =>
    obtain ⟨rfl, hr1, ho1⟩ := hcut
    have X1 := ho1.blk HX.out HNE.out
    clear x0 x2 x4
    have x0 := cell_of_obj X1 (j := 0) (v := .int .i64 op) rfl
    have x1 := cell_of_obj X1 (j := 1) (v := .int .i64 (a : Int)) rfl
    have HO := Hid.mk' ((OnlyB.of_below HB.out).trans ho1)
    have HR1 := Hid.mk' hr1
    clear X1 hr1 ho1 hwX
    cases b2 with
    | false =>
      have h1 := HL2.out
      rw [if_neg (by decide)] at h1
      have HF : Hid (RgP w g L2 false (.returned (.bool false)) wc) := ⟨rfl, h1 ▸ HR1.out, HO.out⟩
      clear h1
      go_wp2_with fail
      exact bodyPost_ret (v := .bool false) (by simp [results, Tryd.results67, go_sem, *]) rfl HF.out
    | true =>
      have h1 := HL2.out
      rw [if_pos rfl] at h1
      by_cases h11 : op = 11
      · rw [if_pos h11] at h1
        have q1 : (op == 11) = true := by simp [h11]
        have HL3 := Hid.mk' h1
        clear h1 h11
        have ha1 : a < l1.length := by rw [HLE.out]; exact ha
        have HA1 := Hid.mk' ha1
        go_upto_region 4 with fail
        clear ha1
        have ne1 : ¬ g = w.heap.size := fun e => HNE.out e.symm
        have ne2 : ¬ w.heap.size = g := HNE.out
        go_cut [] from 19 to 23 (fun wx => RgB wx g L2 ∧ OnlyB g w wx)
        case first =>
          go_region_held3 (fun w' => w'.cell? ⟨w.heap.size, 1, none⟩ = some (.int .i64 (a : Int))) (go_keep) ((go_at_call 84; refine (S8.all_any _).mono ?_; rintro e w5 ⟨rfl, hb5⟩; have B5 := Below.on (Below.drew (Below.refl _ wc)) hb5; have y1 := cell_kept_below x1 B5; have hr5 := HR1.out.stay B5; have e0 := hr5.c0 HA1.out; have e1 := hr5.c1 HA1.out; have z := fun j => hr5.fz j))
          go_wp2_with fail
          go_meet
          case rel =>
            have h5 := hr5.put a allS
            rw [HL3.out] at h5
            exact ⟨h5, (HO.out.trans (OnlyB.of_below B5)).put _ _ _ _⟩
        case rest =>
          obtain ⟨hr2, ho2⟩ := hcut
          have HF : Hid (RgP w g L2 true (.returned (.bool true)) wc) := ⟨rfl, hr2, ho2⟩
          clear hr2 ho2
          go_wp2_with fail
          exact bodyPost_ret (v := .bool true) (by simp [results, Tryd.results67, go_sem, *]) rfl HF.out
      · rw [if_neg h11] at h1
        have q1 : (op == 11) = false := beq_no h11
        have HF : Hid (RgP w g L2 true (.returned (.bool true)) wc) := ⟨rfl, h1 ▸ HR1.out, HO.out⟩
        clear h1 h11
        go_wp2_with fail
        exact bodyPost_ret (v := .bool true) (by simp [results, Tryd.results67, go_sem, *]) rfl HF.out
end Go.Proofs.YtfmkjdfidenfkaaDoor
namespace Go.Proofs.YtfmkjdfidenfkaaDoor
open Go.RowKit
open S8 (meetB meetS joinS widS belA belB belC allS doR doB doS emB sv all_any)

/-- What a call leaves of its arguments' registers. -/
def argsZ : List Sp → Nat → List Sp → Bool × List Sp
  | [], _, l => (true, l)
  | p :: ps, b, l => if meetB (gS l b) p then argsZ ps (b + 1) (l.set b (meetS (gS l b) p)) else (false, l.set b (meetS (gS l b) p))
def callL (l : List Sp) (x : Is) (ps : List Sp) : List Sp := if (argsZ ps x.b.toNat l).1 then (argsZ ps x.b.toNat l).2.set x.a.toNat allS else (argsZ ps x.b.toNat l).2
def callB (l : List Sp) (x : Is) (ps : List Sp) : Bool := (argsZ ps x.b.toNat l).1
theorem argsZ_len : ∀ (ps : List Sp) (b : Nat) (l : List Sp), (argsZ ps b l).2.length = l.length
  | [], _, _ => rfl
  | p :: ps, b, l => by
    unfold argsZ
    split
    · rw [argsZ_len ps]; simp
    · simp
/-- Spans in memory, none of them in block g. -/
def SpsN (W : World) (g : Nat) (a : Option Addr) (ps : List Sp) : Prop := Sps W a ps ∧ (ps ≠ [] → ∀ ad, a = some ad → ad.block ≠ g)
theorem SpsN.only {W W' : World} {g : Nat} {a : Option Addr} {ps : List Sp} (h : SpsN W g a ps) (ho : OnlyB g W W') : SpsN W' g a ps := by
  refine ⟨⟨h.1.1, fun i cs hi => ?_⟩, h.2⟩
  obtain ⟨b, o, e, hc⟩ := h.1.2 i cs hi
  refine ⟨b, o, e, fun j v hj => ?_⟩
  have h1 := hc j v hj
  have h2 := ho.2.2.2.2 b (lt_of_cell h1) (h.2 (fun h0 => by rw [h0] at hi; simp at hi) _ e)
  unfold World.cell? at h1 ⊢
  simp only at h1 ⊢
  rw [h2]
  exact h1

set_option maxRecDepth 100000 in
set_option maxHeartbeats 8000000 in
theorem call_any (l : List Sp) (g c : Nat) (x : Is) (pa : Option Addr) (ps : List Sp) (pc : Nat) (hl : l.length ≤ 64) (ha0 : 0 ≤ x.a) (ha : x.a.toNat < l.length) (hb0 : 0 ≤ x.b) (hb : x.b.toNat + ps.length ≤ l.length) (w : World) (hr : RgB w g l) (hp : SpsN w g pa ps) : Calls Tryd.prog 69 #[.slice (some ⟨g, 0, none⟩) l.length c, x.val, .slice pa ps.length pc] w (RgP w g (callL l x ps) (callB l x ps)) := by
  obtain ⟨op, xa, xb, xc, xn⟩ := x
  simp only at ha0 ha hb0 hb
  obtain ⟨a, rfl⟩ := Int.eq_ofNat_of_zero_le ha0
  obtain ⟨b, rfl⟩ := Int.eq_ofNat_of_zero_le hb0
  simp only [Int.toNat_natCast] at ha hb
  have HK : Hid (∀ (l1 : List Sp) (k : Nat) (s : Sp) (W : World), l1.length = l.length → k < l.length → RgB W g l1 → Calls Tryd.prog 68 #[.slice (some ⟨g, 0, none⟩) l.length c, .int .i64 k, sv s] W (RgP W g (l1.set k (meetS (gS l1 k) s)) (meetB (gS l1 k) s))) := fun l1 k s W h1 h2 h3 => by
    have := keep_any l1 g c k s (by rw [h1]; exact h2) W h3
    rwa [h1] at this
  obtain ⟨L2, hL2⟩ : ∃ y, callL l ⟨op, a, b, xc, xn⟩ ps = y := ⟨_, rfl⟩
  obtain ⟨b2, hb2⟩ : ∃ y, callB l ⟨op, a, b, xc, xn⟩ ps = y := ⟨_, rfl⟩
  rw [hL2, hb2]
  unfold callL at hL2
  unfold callB at hb2
  simp only [Int.toNat_natCast] at hL2 hb2
  have HL2 := Hid.mk' hL2
  have HB2 := Hid.mk' hb2
  have hX := is_new w ⟨op, a, b, xc, xn⟩
  have B := Below.one (Below.refl _ w) (.cells #[.int .i64 op, .int .i64 (a : Int), .int .i64 (b : Int), .int .i64 xc, .int .i64 xn] 57)
  simp only at hX
  have hal : (a : Int) < (l.length : Int) := by omega
  have HR := Hid.mk' (hr.stay B)
  have HB := Hid.mk' B
  have HX := Hid.mk' hX
  have HP := Hid.mk' (hp.only (OnlyB.of_below B))
  have hgw : g < w.heap.size := hr.lt
  have HNE := Hid.mk' (show w.heap.size ≠ g by omega)
  have HLN := Hid.mk' hb
  have HA := Hid.mk' ha
  have hpl : ps.length ≤ 64 := by omega
  clear hX B hr hp hL2 hb2 ha0 hb0 ha hb
  unfold Is.val
  simp only
  go_enter Tryd.func69, Tryd.ntmps69
  go_upto_region 1 with fail
  generalize w.alloc (.cells #[.int .i64 op, .int .i64 (a : Int), .int .i64 (b : Int), .int .i64 xc, .int .i64 xn] 57) = W at *
  go_wp2_with fail
  go_loopw [11] (fun t11 wr => ∃ (k : Nat) (l1 : List Sp), t11 = .int .i64 k ∧ k ≤ ps.length ∧ l1.length = l.length ∧ RgB wr g l1 ∧ OnlyB g W wr ∧ argsZ (ps.drop k) (b + k) l1 = argsZ ps b l) (fun t11 _ => ps.length - (intOf t11).toNat)
  case atStart => exact ⟨0, l, rfl, Nat.zero_le _, rfl, HR.out, OnlyB.refl _ _, by simp⟩
  case round =>
    obtain ⟨k, l1, rfl, hk, hl1, hr1, ho1, hz⟩ := hrel
    have X1 := ho1.blk HX.out HNE.out
    have x1 := cell_of_obj X1 (j := 1) (v := .int .i64 (a : Int)) rfl
    have x2 := cell_of_obj X1 (j := 2) (v := .int .i64 (b : Int)) rfl
    have HR1 := Hid.mk' hr1
    have HO1 := Hid.mk' ho1
    have HL1 := Hid.mk' hl1
    have HZ := Hid.mk' hz
    by_cases hlt : k < ps.length
    · have hli : (k : Int) < (ps.length : Int) := by omega
      obtain ⟨pb, po, rfl, c0, c1⟩ := sps_at (HP.out.only ho1).1 hlt
      have hkk : b + k < l.length := by have := HLN.out; omega
      have HKK := Hid.mk' (HK.out l1 (b + k) ps[k])
      have e1 : ((b + k : Nat) : Int) = (b : Int) + (k : Int) := by omega
      have w1 : IntKind.i64.wrap ((b : Int) + (k : Int)) = ((b + k : Nat) : Int) := by rw [IntKind.wrap_i64]; omega
      have w2 : wrap64 ((b : Int) + (k : Int)) = ((b + k : Nat) : Int) := by unfold wrap64; omega
      have hlt2 : k < ps.length := hlt
      have hdr : ps.drop k = ps[k] :: ps.drop (k + 1) := List.drop_eq_getElem_cons hlt
      rw [hdr, argsZ] at hz
      generalize hs : ps[k] = s at *
      obtain ⟨s1, s2⟩ := s
      have HZ2 := Hid.mk' hz
      clear hz HZ hdr hs HKK
      have HX1 := Hid.mk' X1
      have BA := Below.one (Below.refl _ wr) (.cells #[.int .i64 s1, .int .i64 s2] 54)
      have hN := heap_alloc_new wr (.cells #[.int .i64 s1, .int .i64 s2] 54)
      have y0 := cell_of_obj hN (j := 0) (v := .int .i64 s1) rfl
      have y1 := cell_of_obj hN (j := 1) (v := .int .i64 s2) rfl
      have x2' := cell_kept_below x2 BA
      have HRA := Hid.mk' (HR1.out.stay BA)
      have HBA := Hid.mk' BA
      have HXA := Hid.mk' ((BA.block _ (Array.getElem?_eq_some_iff.1 X1).1).trans X1)
      clear X1 hr1 ho1 hl1 BA hN
      go_upto_region 4 with fail
      generalize wr.alloc (.cells #[.int .i64 s1, .int .i64 s2] 54) = V at *
      clear c0 c1 x1 x2
      by_cases hm : meetB (gS l1 (b + k)) (s1, s2) = true
      · have HC : Hid (Calls Tryd.prog 68 #[.slice (some ⟨g, 0, none⟩) l.length c, .int .i64 ((b + k : Nat) : Int), .agg #[.int .i64 s1, .int .i64 s2]] V (RgP V g (l1.set (b + k) (meetS (gS l1 (b + k)) (s1, s2))) true)) := by
          have := HK.out l1 (b + k) (s1, s2) V HL1.out hkk HRA.out
          rwa [hm] at this
        have h2 := HZ2.out
        rw [if_pos hm] at h2
        have HZ3 := Hid.mk' h2
        clear h2 HZ2 hm
        go_wp2_with (go_at_call 68; refine HC.out.mono ?_; rintro e w6 ⟨rfl, hr6, ho6⟩)
        go_roundw
        case rel => exact ⟨k + 1, _, by go_num, by omega, by rw [List.length_set]; exact HL1.out, hr6, (HO1.out.trans (OnlyB.of_below HBA.out)).trans ho6, HZ3.out⟩
        case measure => simp [intOf]; omega
      · have hm' : meetB (gS l1 (b + k)) (s1, s2) = false := by simpa using hm
        have HC : Hid (Calls Tryd.prog 68 #[.slice (some ⟨g, 0, none⟩) l.length c, .int .i64 ((b + k : Nat) : Int), .agg #[.int .i64 s1, .int .i64 s2]] V (RgP V g (l1.set (b + k) (meetS (gS l1 (b + k)) (s1, s2))) false)) := by
          have := HK.out l1 (b + k) (s1, s2) V HL1.out hkk HRA.out
          rwa [hm'] at this
        have h2 := HZ2.out
        rw [if_neg hm] at h2
        have h3 := HL2.out
        rw [← h2, if_neg (by simp)] at h3
        have h4 := HB2.out
        rw [← h2] at h4
        have HL3 := Hid.mk' h3
        have HB3 := Hid.mk' h4
        clear h2 h3 h4 HZ2 hm hm'
        go_wp2_with (go_at_call 68; refine HC.out.mono ?_; rintro e w6 ⟨rfl, hr6, ho6⟩)
        exact bodyPost_ret (v := .bool false) (by simp [results, Tryd.results69, go_sem, *]) rfl ⟨by rw [← HB3.out], HL3.out ▸ hr6, ((OnlyB.of_below HB.out).trans ((HO1.out.trans (OnlyB.of_below HBA.out)).trans ho6))⟩
    · obtain rfl : k = ps.length := by omega
      have h2 := HZ.out
      rw [List.drop_length, argsZ] at h2
      have h3 := HL2.out
      rw [← h2, if_pos rfl] at h3
      have h4 := HB2.out
      rw [← h2] at h4
      have HL3 := Hid.mk' h3
      have HB3 := Hid.mk' h4
      have HXX := Hid.mk' X1
      have ha1 : a < l1.length := by rw [HL1.out]; exact HA.out
      have HA1 := Hid.mk' ha1
      have ne1 : ¬ g = w.heap.size := fun e => HNE.out e.symm
      have ne2 : ¬ w.heap.size = g := HNE.out
      clear h2 h3 h4 hz HZ X1 hr1 ho1 hl1 x2 ha1
      go_upto_region 7 with fail
      go_cut [] from 25 to 29 (fun wx => RgB wx g L2 ∧ OnlyB g w wx)
      case first =>
        go_region_held3 (fun w' => w'.cell? ⟨w.heap.size, 1, none⟩ = some (.int .i64 (a : Int))) (go_keep) ((go_at_call 84; refine (S8.all_any _).mono ?_; rintro e w5 ⟨rfl, hb5⟩; have B5 := Below.on (Below.drew (Below.refl _ wr)) hb5; have y1 := cell_kept_below x1 B5; have hr5 := HR1.out.stay B5; have e0 := hr5.c0 HA1.out; have e1 := hr5.c1 HA1.out; have z := fun j => hr5.fz j))
        go_wp2_with fail
        go_meet
        case rel =>
          have h5 := hr5.put a allS
          rw [HL3.out] at h5
          exact ⟨h5, ((OnlyB.of_below HB.out).trans (HO1.out.trans (OnlyB.of_below B5))).put _ _ _ _⟩
      case rest =>
        obtain ⟨hr2, ho2⟩ := hcut
        have HF : Hid (RgP w g L2 b2 (.returned (.bool true)) wc) := ⟨by rw [← HB3.out], hr2, ho2⟩
        clear hr2 ho2
        go_wp2_with fail
        exact bodyPost_ret (v := .bool true) (by simp [results, Tryd.results69, go_sem, *]) rfl HF.out
end Go.Proofs.YtfmkjdfidenfkaaDoor
