/- Bounds: what never ends a run. -/
import Derived.Test.YtfmkjdfidenfkaaDoorZam
import Derived.Test.YtfmkjdfidenfkaaDoorYw
namespace Go.Proofs.YtfmkjdfidenfkaaDoor
open Go.RowKit
open S8 (meetB meetS joinS widS belA belB belC allS doR doB doS emB sv do_any)

/-- What a plain operation leaves. -/
def wrtL (l : List Sp) (x : Is) : List Sp :=
  if x.op = 1 then l.set x.a.toNat (x.n, x.n) else if x.op = 2 then l.set x.a.toNat (gS l x.b.toNat)
  else if x.op = 10 then l.set x.a.toNat (doR 10 (gS l x.b.toNat) (0, 0)) else if x.op = 18 then l.set x.a.toNat (doR 3 (gS l x.a.toNat) (1, 1))
  else if x.op = 3 ∨ x.op = 4 ∨ x.op = 5 ∨ x.op = 8 ∨ x.op = 9 then l.set x.a.toNat (doR x.op (gS l x.b.toNat) (gS l x.c.toNat)) else l

set_option maxRecDepth 100000 in
set_option maxHeartbeats 8000000 in
theorem write_any (l : List Sp) (g c : Nat) (x : Is) (ho : RgOk l) (ha0 : 0 ≤ x.a) (ha : x.a.toNat < l.length) (hb0 : 0 ≤ x.b) (hb : x.b.toNat < l.length) (hc0 : 0 ≤ x.c) (hc : x.c.toNat < l.length) (w : World) (hr : RgB w g l) : Calls Tryd.prog 70 #[.slice (some ⟨g, 0, none⟩) l.length c, x.val] w (fun e w' => (∃ v, e = .returned v) ∧ RgB w' g (wrtL l x) ∧ OnlyB g w w') := by
  have HM := Hid.mk' (fun (op : Int) (s t : Sp) => do_any op s t)
  obtain ⟨op, xa, xb, xc, xn⟩ := x
  simp only at ha0 ha hb0 hb hc0 hc
  obtain ⟨a, rfl⟩ := Int.eq_ofNat_of_zero_le ha0
  obtain ⟨b, rfl⟩ := Int.eq_ofNat_of_zero_le hb0
  obtain ⟨k, rfl⟩ := Int.eq_ofNat_of_zero_le hc0
  simp only [Int.toNat_natCast] at ha hb hc
  obtain ⟨L2, hL2⟩ : ∃ y, wrtL l ⟨op, a, b, k, xn⟩ = y := ⟨_, rfl⟩
  rw [hL2]
  unfold wrtL at hL2
  simp only [Int.toNat_natCast] at hL2
  have HL2 := Hid.mk' hL2
  clear hL2 ha0 hb0 hc0
  have hX := is_new w ⟨op, a, b, k, xn⟩
  have B := Below.one (Below.refl _ w) (.cells #[.int .i64 op, .int .i64 (a : Int), .int .i64 (b : Int), .int .i64 (k : Int), .int .i64 xn] 57)
  simp only at hX
  have hal : (a : Int) < (l.length : Int) := by omega
  have hbl : (b : Int) < (l.length : Int) := by omega
  have hkl : (k : Int) < (l.length : Int) := by omega
  have hR := Hid.mk' (hr.stay B)
  have HB := Hid.mk' B
  have HX := Hid.mk' hX
  have x0 := cell_of_obj hX (j := 0) (v := .int .i64 op) rfl
  have x1 := cell_of_obj hX (j := 1) (v := .int .i64 (a : Int)) rfl
  have x2 := cell_of_obj hX (j := 2) (v := .int .i64 (b : Int)) rfl
  have x3 := cell_of_obj hX (j := 3) (v := .int .i64 (k : Int)) rfl
  have x4 := cell_of_obj hX (j := 4) (v := .int .i64 xn) rfl
  have hgw : g < w.heap.size := hr.lt
  have ne1 : ¬ g = w.heap.size := by omega
  have ne2 : ¬ w.heap.size = g := by omega
  clear hX B hr
  have HEND : Hid (∀ (V : World) (s : Sp), L2 = l.set a s → RgB V g l → OnlyB g w V → RgB ((V.setCell ⟨g, a * 2, none⟩ (.int .i64 s.1)).setCell ⟨g, a * 2 + 1, none⟩ (.int .i64 s.2)) g L2 ∧ OnlyB g w ((V.setCell ⟨g, a * 2, none⟩ (.int .i64 s.1)).setCell ⟨g, a * 2 + 1, none⟩ (.int .i64 s.2))) := fun V s h1 h2 h3 => ⟨by rw [h1]; exact h2.put a s, h3.put _ _ _ _⟩
  unfold Is.val
  simp only
  go_enter Tryd.func70, Tryd.ntmps70
  go_upto_region 1 with fail
  generalize w.alloc (.cells #[.int .i64 op, .int .i64 (a : Int), .int .i64 (b : Int), .int .i64 (k : Int), .int .i64 xn] 57) = W at *
  have c0 := hR.out.c0 ha
  have c1 := hR.out.c1 ha
  have cf := fun j => hR.out.fz j
  have d0 := hR.out.c0 hb
  have d1 := hR.out.c1 hb
  have e0 := hR.out.c0 hc
  have e1 := hR.out.c1 hc
  have HOW := Hid.mk' (OnlyB.of_below (b := g) HB.out)
  by_cases h1 : op = 1
  · have hL := HL2.out
    rw [if_pos h1] at hL
    have HF := Hid.mk' (HEND.out W (xn, xn) hL.symm hR.out HOW.out)
    subst h1
    clear hL HL2 HEND HM
    go_wp2_with fail
    exact bodyPost_end (results_none rfl _ _ _) rfl ⟨⟨_, rfl⟩, HF.out⟩
  have q1 : (op == 1) = false := beq_no h1
  by_cases h2 : op = 2
  · have hL := HL2.out
    rw [if_neg h1, if_pos h2] at hL
    subst h2
    clear HL2 HM h1 q1
    go_upto_region 5 with fail
    have hS0 : (fun w' => RgB w' g l ∧ w'.heap[w.heap.size]? = some (.cells #[.int .i64 2, .int .i64 (a : Int), .int .i64 (b : Int), .int .i64 (k : Int), .int .i64 xn] 57)) W.drew := ⟨hR.out, HX.out⟩
    have y0 : ∀ w', (fun w' => RgB w' g l ∧ w'.heap[w.heap.size]? = some (.cells #[.int .i64 2, .int .i64 (a : Int), .int .i64 (b : Int), .int .i64 (k : Int), .int .i64 xn] 57)) w' → w'.cell? ⟨w.heap.size, 0, none⟩ = some (.int .i64 2) := fun w' h => cell_of_obj h.2 rfl
    have y1 : ∀ w', (fun w' => RgB w' g l ∧ w'.heap[w.heap.size]? = some (.cells #[.int .i64 2, .int .i64 (a : Int), .int .i64 (b : Int), .int .i64 (k : Int), .int .i64 xn] 57)) w' → w'.cell? ⟨w.heap.size, 1, none⟩ = some (.int .i64 (a : Int)) := fun w' h => cell_of_obj h.2 rfl
    have y2 : ∀ w', (fun w' => RgB w' g l ∧ w'.heap[w.heap.size]? = some (.cells #[.int .i64 2, .int .i64 (a : Int), .int .i64 (b : Int), .int .i64 (k : Int), .int .i64 xn] 57)) w' → w'.cell? ⟨w.heap.size, 2, none⟩ = some (.int .i64 (b : Int)) := fun w' h => cell_of_obj h.2 rfl
    have y3 : ∀ w', (fun w' => RgB w' g l ∧ w'.heap[w.heap.size]? = some (.cells #[.int .i64 2, .int .i64 (a : Int), .int .i64 (b : Int), .int .i64 (k : Int), .int .i64 xn] 57)) w' → w'.cell? ⟨w.heap.size, 3, none⟩ = some (.int .i64 (k : Int)) := fun w' h => cell_of_obj h.2 rfl
    have y4 : ∀ w', (fun w' => RgB w' g l ∧ w'.heap[w.heap.size]? = some (.cells #[.int .i64 2, .int .i64 (a : Int), .int .i64 (b : Int), .int .i64 (k : Int), .int .i64 xn] 57)) w' → w'.cell? ⟨w.heap.size, 4, none⟩ = some (.int .i64 xn) := fun w' h => cell_of_obj h.2 rfl
    have za0 : ∀ w', (fun w' => RgB w' g l ∧ w'.heap[w.heap.size]? = some (.cells #[.int .i64 2, .int .i64 (a : Int), .int .i64 (b : Int), .int .i64 (k : Int), .int .i64 xn] 57)) w' → w'.cell? ⟨g, a * 2, none⟩ = some (.int .i64 (gS l a).1) := fun w' h => h.1.c0 ha
    have za1 : ∀ w', (fun w' => RgB w' g l ∧ w'.heap[w.heap.size]? = some (.cells #[.int .i64 2, .int .i64 (a : Int), .int .i64 (b : Int), .int .i64 (k : Int), .int .i64 xn] 57)) w' → w'.cell? ⟨g, a * 2 + 1, none⟩ = some (.int .i64 (gS l a).2) := fun w' h => h.1.c1 ha
    have zb0 : ∀ w', (fun w' => RgB w' g l ∧ w'.heap[w.heap.size]? = some (.cells #[.int .i64 2, .int .i64 (a : Int), .int .i64 (b : Int), .int .i64 (k : Int), .int .i64 xn] 57)) w' → w'.cell? ⟨g, b * 2, none⟩ = some (.int .i64 (gS l b).1) := fun w' h => h.1.c0 hb
    have zb1 : ∀ w', (fun w' => RgB w' g l ∧ w'.heap[w.heap.size]? = some (.cells #[.int .i64 2, .int .i64 (a : Int), .int .i64 (b : Int), .int .i64 (k : Int), .int .i64 xn] 57)) w' → w'.cell? ⟨g, b * 2 + 1, none⟩ = some (.int .i64 (gS l b).2) := fun w' h => h.1.c1 hb
    have zk0 : ∀ w', (fun w' => RgB w' g l ∧ w'.heap[w.heap.size]? = some (.cells #[.int .i64 2, .int .i64 (a : Int), .int .i64 (b : Int), .int .i64 (k : Int), .int .i64 xn] 57)) w' → w'.cell? ⟨g, k * 2, none⟩ = some (.int .i64 (gS l k).1) := fun w' h => h.1.c0 hc
    have zk1 : ∀ w', (fun w' => RgB w' g l ∧ w'.heap[w.heap.size]? = some (.cells #[.int .i64 2, .int .i64 (a : Int), .int .i64 (b : Int), .int .i64 (k : Int), .int .i64 xn] 57)) w' → w'.cell? ⟨g, k * 2 + 1, none⟩ = some (.int .i64 (gS l k).2) := fun w' h => h.1.c1 hc
    clear c0 c1 cf d0 d1 e0 e1 x0 x1 x2 x3 x4
    refine wp_region_K (fun w' => RgB w' g l ∧ w'.heap[w.heap.size]? = some (.cells #[.int .i64 2, .int .i64 (a : Int), .int .i64 (b : Int), .int .i64 (k : Int), .int .i64 xn] 57)) 9 (by kernel_rfl) ?_
    simp only [List.size_toArray, List.length_cons, List.length_nil, Nat.reduceAdd]
    refine wpAnyK_takeL (i := 0) (v := ?tvq2_0) rfl (by decide) (by kernel_rfl) (by kernel_rfl) (by kernel_rfl) (by kernel_rfl) (by kernel_rfl) (fun _ _ _ h => h) (by rfl) ?tyq2_0 hS0 ?trq2_0
    case tyq2_0 => (intro w' hSw; go_simp; try with_reducible rfl)
    simp only [Act.put, List.setIfInBounds_toArray, List.set_cons_zero, List.set_cons_succ]
    refine wpAnyK_takeL (i := 1) (v := ?tvq2_1) rfl (by decide) (by kernel_rfl) (by kernel_rfl) (by kernel_rfl) (by kernel_rfl) (by kernel_rfl) (fun _ _ _ h => h) (by rfl) ?tyq2_1 hS0 ?trq2_1
    case tyq2_1 => (intro w' hSw; go_simp; try with_reducible rfl)
    simp only [Act.put, List.setIfInBounds_toArray, List.set_cons_zero, List.set_cons_succ]
    refine wpAnyK_takeL (i := 2) (v := ?tvq2_2) rfl (by decide) (by kernel_rfl) (by kernel_rfl) (by kernel_rfl) (by kernel_rfl) (by kernel_rfl) (fun _ _ _ h => h) (by rfl) ?tyq2_2 hS0 ?trq2_2
    case tyq2_2 => (intro w' hSw; go_simp; try with_reducible rfl)
    simp only [Act.put, List.setIfInBounds_toArray, List.set_cons_zero, List.set_cons_succ]
    refine wpAnyK_takeL (i := 3) (v := ?tvq2_3) rfl (by decide) (by kernel_rfl) (by kernel_rfl) (by kernel_rfl) (by kernel_rfl) (by kernel_rfl) (fun _ _ _ h => h) (by rfl) ?tyq2_3 hS0 ?trq2_3
    case tyq2_3 => (intro w' hSw; go_simp; try with_reducible rfl)
    simp only [Act.put, List.setIfInBounds_toArray, List.set_cons_zero, List.set_cons_succ]
    refine wpAnyK_takeL (i := 4) (v := ?tvq2_4) rfl (by decide) (by kernel_rfl) (by kernel_rfl) (by kernel_rfl) (by kernel_rfl) (by kernel_rfl) (fun _ _ _ h => h) (by rfl) ?tyq2_4 hS0 ?trq2_4
    case tyq2_4 => (intro w' hSw; go_simp; try with_reducible rfl)
    simp only [Act.put, List.setIfInBounds_toArray, List.set_cons_zero, List.set_cons_succ]
    refine wpAnyK_takeL (i := 5) (v := ?tvq2_5) rfl (by decide) (by kernel_rfl) (by kernel_rfl) (by kernel_rfl) (by kernel_rfl) (by kernel_rfl) (fun _ _ _ h => h) (by rfl) ?tyq2_5 hS0 ?trq2_5
    case tyq2_5 => (intro w' hSw; go_simp; try with_reducible rfl)
    simp only [Act.put, List.setIfInBounds_toArray, List.set_cons_zero, List.set_cons_succ]
    refine wpAnyK_takeL (i := 6) (v := ?tvq2_6) rfl (by decide) (by kernel_rfl) (by kernel_rfl) (by kernel_rfl) (by kernel_rfl) (by kernel_rfl) (fun _ _ _ h => h) (by rfl) ?tyq2_6 hS0 ?trq2_6
    case tyq2_6 => (intro w' hSw; go_simp; try with_reducible rfl)
    simp only [Act.put, List.setIfInBounds_toArray, List.set_cons_zero, List.set_cons_succ]
    refine wpAnyK_takeL (i := 7) (v := ?tvq2_7) rfl (by decide) (by kernel_rfl) (by kernel_rfl) (by kernel_rfl) (by kernel_rfl) (by kernel_rfl) (fun _ _ _ h => h) (by rfl) ?tyq2_7 hS0 ?trq2_7
    case tyq2_7 => (intro w' hSw; go_simp; try with_reducible rfl)
    simp only [Act.put, List.setIfInBounds_toArray, List.set_cons_zero, List.set_cons_succ]
    refine wpAnyK_takeL (i := 8) (v := ?tvq2_8) rfl (by decide) (by kernel_rfl) (by kernel_rfl) (by kernel_rfl) (by kernel_rfl) (by kernel_rfl) (fun _ _ _ h => h) (by rfl) ?tyq2_8 hS0 ?trq2_8
    case tyq2_8 => (intro w' hSw; go_simp; try with_reducible rfl)
    simp only [Act.put, List.setIfInBounds_toArray, List.set_cons_zero, List.set_cons_succ]
    have c0 := hR.out.c0 ha
    have c1 := hR.out.c1 ha
    have cf := fun j => hR.out.fz j
    have c0' : W.drew.cell? _ = some _ := c0
    have c1' : W.drew.cell? _ = some _ := c1
    have cf' : ∀ j, W.drew.frozen? ⟨g, j, none⟩ = false := cf
    have HF := Hid.mk' (HEND.out W.drew _ hL.symm hS0.1 (HOW.out.drew))
    refine wpAnyK_one (i := 9) (by kernel_rfl) rfl (fun K hK => ?_)
    go_simp
    refine hK.out _ _ (fun h => absurd rfl h) ?_
    clear hK K
    refine wpAnyK_done (by kernel_rfl) ?_ _
    go_wp2_with fail
    exact bodyPost_end (results_none rfl _ _ _) rfl ⟨⟨_, rfl⟩, HF.out⟩
  have q2 : (op == 2) = false := beq_no h2
  by_cases h10 : op = 10
  · have hL := HL2.out
    rw [if_neg h1, if_neg h2, if_pos h10] at hL
    subst h10
    have HD := Hid.mk' (HM.out 10 (gS l b) (0, 0) (gS_ok ho hb) ⟨by unfold S8.Nm; decide, by unfold S8.Nm; decide⟩)
    clear HL2 HM h1 h2 q1 q2
    go_upto_region 7 with fail
    have hS0 : (fun w' => RgB w' g l ∧ w'.heap[w.heap.size]? = some (.cells #[.int .i64 10, .int .i64 (a : Int), .int .i64 (b : Int), .int .i64 (k : Int), .int .i64 xn] 57)) W.drew := ⟨hR.out, HX.out⟩
    have y0 : ∀ w', (fun w' => RgB w' g l ∧ w'.heap[w.heap.size]? = some (.cells #[.int .i64 10, .int .i64 (a : Int), .int .i64 (b : Int), .int .i64 (k : Int), .int .i64 xn] 57)) w' → w'.cell? ⟨w.heap.size, 0, none⟩ = some (.int .i64 10) := fun w' h => cell_of_obj h.2 rfl
    have y1 : ∀ w', (fun w' => RgB w' g l ∧ w'.heap[w.heap.size]? = some (.cells #[.int .i64 10, .int .i64 (a : Int), .int .i64 (b : Int), .int .i64 (k : Int), .int .i64 xn] 57)) w' → w'.cell? ⟨w.heap.size, 1, none⟩ = some (.int .i64 (a : Int)) := fun w' h => cell_of_obj h.2 rfl
    have y2 : ∀ w', (fun w' => RgB w' g l ∧ w'.heap[w.heap.size]? = some (.cells #[.int .i64 10, .int .i64 (a : Int), .int .i64 (b : Int), .int .i64 (k : Int), .int .i64 xn] 57)) w' → w'.cell? ⟨w.heap.size, 2, none⟩ = some (.int .i64 (b : Int)) := fun w' h => cell_of_obj h.2 rfl
    have y3 : ∀ w', (fun w' => RgB w' g l ∧ w'.heap[w.heap.size]? = some (.cells #[.int .i64 10, .int .i64 (a : Int), .int .i64 (b : Int), .int .i64 (k : Int), .int .i64 xn] 57)) w' → w'.cell? ⟨w.heap.size, 3, none⟩ = some (.int .i64 (k : Int)) := fun w' h => cell_of_obj h.2 rfl
    have y4 : ∀ w', (fun w' => RgB w' g l ∧ w'.heap[w.heap.size]? = some (.cells #[.int .i64 10, .int .i64 (a : Int), .int .i64 (b : Int), .int .i64 (k : Int), .int .i64 xn] 57)) w' → w'.cell? ⟨w.heap.size, 4, none⟩ = some (.int .i64 xn) := fun w' h => cell_of_obj h.2 rfl
    have za0 : ∀ w', (fun w' => RgB w' g l ∧ w'.heap[w.heap.size]? = some (.cells #[.int .i64 10, .int .i64 (a : Int), .int .i64 (b : Int), .int .i64 (k : Int), .int .i64 xn] 57)) w' → w'.cell? ⟨g, a * 2, none⟩ = some (.int .i64 (gS l a).1) := fun w' h => h.1.c0 ha
    have za1 : ∀ w', (fun w' => RgB w' g l ∧ w'.heap[w.heap.size]? = some (.cells #[.int .i64 10, .int .i64 (a : Int), .int .i64 (b : Int), .int .i64 (k : Int), .int .i64 xn] 57)) w' → w'.cell? ⟨g, a * 2 + 1, none⟩ = some (.int .i64 (gS l a).2) := fun w' h => h.1.c1 ha
    have zb0 : ∀ w', (fun w' => RgB w' g l ∧ w'.heap[w.heap.size]? = some (.cells #[.int .i64 10, .int .i64 (a : Int), .int .i64 (b : Int), .int .i64 (k : Int), .int .i64 xn] 57)) w' → w'.cell? ⟨g, b * 2, none⟩ = some (.int .i64 (gS l b).1) := fun w' h => h.1.c0 hb
    have zb1 : ∀ w', (fun w' => RgB w' g l ∧ w'.heap[w.heap.size]? = some (.cells #[.int .i64 10, .int .i64 (a : Int), .int .i64 (b : Int), .int .i64 (k : Int), .int .i64 xn] 57)) w' → w'.cell? ⟨g, b * 2 + 1, none⟩ = some (.int .i64 (gS l b).2) := fun w' h => h.1.c1 hb
    have zk0 : ∀ w', (fun w' => RgB w' g l ∧ w'.heap[w.heap.size]? = some (.cells #[.int .i64 10, .int .i64 (a : Int), .int .i64 (b : Int), .int .i64 (k : Int), .int .i64 xn] 57)) w' → w'.cell? ⟨g, k * 2, none⟩ = some (.int .i64 (gS l k).1) := fun w' h => h.1.c0 hc
    have zk1 : ∀ w', (fun w' => RgB w' g l ∧ w'.heap[w.heap.size]? = some (.cells #[.int .i64 10, .int .i64 (a : Int), .int .i64 (b : Int), .int .i64 (k : Int), .int .i64 xn] 57)) w' → w'.cell? ⟨g, k * 2 + 1, none⟩ = some (.int .i64 (gS l k).2) := fun w' h => h.1.c1 hc
    clear c0 c1 cf d0 d1 e0 e1 x0 x1 x2 x3 x4
    refine wp_region_K (fun w' => RgB w' g l ∧ w'.heap[w.heap.size]? = some (.cells #[.int .i64 10, .int .i64 (a : Int), .int .i64 (b : Int), .int .i64 (k : Int), .int .i64 xn] 57)) 14 (by kernel_rfl) ?_
    simp only [List.size_toArray, List.length_cons, List.length_nil, Nat.reduceAdd]
    refine wpAnyK_takeL (i := 0) (v := ?tvq10_0) rfl (by decide) (by kernel_rfl) (by kernel_rfl) (by kernel_rfl) (by kernel_rfl) (by kernel_rfl) (fun _ _ _ h => h) (by rfl) ?tyq10_0 hS0 ?trq10_0
    case tyq10_0 => (intro w' hSw; go_simp; try with_reducible rfl)
    simp only [Act.put, List.setIfInBounds_toArray, List.set_cons_zero, List.set_cons_succ]
    refine wpAnyK_takeL (i := 1) (v := ?tvq10_1) rfl (by decide) (by kernel_rfl) (by kernel_rfl) (by kernel_rfl) (by kernel_rfl) (by kernel_rfl) (fun _ _ _ h => h) (by rfl) ?tyq10_1 hS0 ?trq10_1
    case tyq10_1 => (intro w' hSw; go_simp; try with_reducible rfl)
    simp only [Act.put, List.setIfInBounds_toArray, List.set_cons_zero, List.set_cons_succ]
    refine wpAnyK_takeL (i := 2) (v := ?tvq10_2) rfl (by decide) (by kernel_rfl) (by kernel_rfl) (by kernel_rfl) (by kernel_rfl) (by kernel_rfl) (fun _ _ _ h => h) (by rfl) ?tyq10_2 hS0 ?trq10_2
    case tyq10_2 => (intro w' hSw; go_simp; try with_reducible rfl)
    simp only [Act.put, List.setIfInBounds_toArray, List.set_cons_zero, List.set_cons_succ]
    refine wpAnyK_takeL (i := 3) (v := ?tvq10_3) rfl (by decide) (by kernel_rfl) (by kernel_rfl) (by kernel_rfl) (by kernel_rfl) (by kernel_rfl) (fun _ _ _ h => h) (by rfl) ?tyq10_3 hS0 ?trq10_3
    case tyq10_3 => (intro w' hSw; go_simp; try with_reducible rfl)
    simp only [Act.put, List.setIfInBounds_toArray, List.set_cons_zero, List.set_cons_succ]
    refine wpAnyK_takeL (i := 4) (v := ?tvq10_4) rfl (by decide) (by kernel_rfl) (by kernel_rfl) (by kernel_rfl) (by kernel_rfl) (by kernel_rfl) (fun _ _ _ h => h) (by rfl) ?tyq10_4 hS0 ?trq10_4
    case tyq10_4 => (intro w' hSw; go_simp; try with_reducible rfl)
    simp only [Act.put, List.setIfInBounds_toArray, List.set_cons_zero, List.set_cons_succ]
    refine wpAnyK_takeL (i := 5) (v := ?tvq10_5) rfl (by decide) (by kernel_rfl) (by kernel_rfl) (by kernel_rfl) (by kernel_rfl) (by kernel_rfl) (fun _ _ _ h => h) (by rfl) ?tyq10_5 hS0 ?trq10_5
    case tyq10_5 => (intro w' hSw; go_simp; try with_reducible rfl)
    simp only [Act.put, List.setIfInBounds_toArray, List.set_cons_zero, List.set_cons_succ]
    refine wpAnyK_takeL (i := 6) (v := ?tvq10_6) rfl (by decide) (by kernel_rfl) (by kernel_rfl) (by kernel_rfl) (by kernel_rfl) (by kernel_rfl) (fun _ _ _ h => h) (by rfl) ?tyq10_6 hS0 ?trq10_6
    case tyq10_6 => (intro w' hSw; go_simp; try with_reducible rfl)
    simp only [Act.put, List.setIfInBounds_toArray, List.set_cons_zero, List.set_cons_succ]
    refine wpAnyK_takeL (i := 7) (v := ?tvq10_7) rfl (by decide) (by kernel_rfl) (by kernel_rfl) (by kernel_rfl) (by kernel_rfl) (by kernel_rfl) (fun _ _ _ h => h) (by rfl) ?tyq10_7 hS0 ?trq10_7
    case tyq10_7 => (intro w' hSw; go_simp; try with_reducible rfl)
    simp only [Act.put, List.setIfInBounds_toArray, List.set_cons_zero, List.set_cons_succ]
    refine wpAnyK_takeL (i := 8) (v := ?tvq10_8) rfl (by decide) (by kernel_rfl) (by kernel_rfl) (by kernel_rfl) (by kernel_rfl) (by kernel_rfl) (fun _ _ _ h => h) (by rfl) ?tyq10_8 hS0 ?trq10_8
    case tyq10_8 => (intro w' hSw; go_simp; try with_reducible rfl)
    simp only [Act.put, List.setIfInBounds_toArray, List.set_cons_zero, List.set_cons_succ]
    refine wpAnyK_one (i := 9) (by kernel_rfl) rfl (fun K hK => ?_)
    go_simp
    go_at_call 82
    refine (HD.out _).mono ?_
    rintro e w5 ⟨rfl, hb5⟩
    have B5 := Below.on (Below.drew (Below.refl _ W)) hb5
    have hS5 : (fun w' => RgB w' g l ∧ w'.heap[w.heap.size]? = some (.cells #[.int .i64 10, .int .i64 (a : Int), .int .i64 (b : Int), .int .i64 (k : Int), .int .i64 xn] 57)) w5 := ⟨hR.out.stay B5, (B5.block _ (Array.getElem?_eq_some_iff.1 HX.out).1).trans HX.out⟩
    refine hK.out _ _ (fun _ _ => hS5) ?_
    clear hK K
    refine wpAnyK_takeL (i := 10) (v := ?tvq10_10) rfl (by decide) (by kernel_rfl) (by kernel_rfl) (by kernel_rfl) (by kernel_rfl) (by kernel_rfl) (fun _ _ _ h => h) (by rfl) ?tyq10_10 hS5 ?trq10_10
    case tyq10_10 => (intro w' hSw; go_simp; try with_reducible rfl)
    simp only [Act.put, List.setIfInBounds_toArray, List.set_cons_zero, List.set_cons_succ]
    refine wpAnyK_takeL (i := 11) (v := ?tvq10_11) rfl (by decide) (by kernel_rfl) (by kernel_rfl) (by kernel_rfl) (by kernel_rfl) (by kernel_rfl) (fun _ _ _ h => h) (by rfl) ?tyq10_11 hS5 ?trq10_11
    case tyq10_11 => (intro w' hSw; go_simp; try with_reducible rfl)
    simp only [Act.put, List.setIfInBounds_toArray, List.set_cons_zero, List.set_cons_succ]
    refine wpAnyK_takeL (i := 13) (v := ?tvq10_13) rfl (by decide) (by kernel_rfl) (by kernel_rfl) (by kernel_rfl) (by kernel_rfl) (by kernel_rfl) (fun _ _ _ h => h) (by rfl) ?tyq10_13 hS5 ?trq10_13
    case tyq10_13 => (intro w' hSw; go_simp; try with_reducible rfl)
    simp only [Act.put, List.setIfInBounds_toArray, List.set_cons_zero, List.set_cons_succ]
    have c0 := hS5.1.c0 ha
    have c1 := hS5.1.c1 ha
    have cf := fun j => hS5.1.fz j
    have HF := Hid.mk' (HEND.out w5 _ hL.symm hS5.1 (HOW.out.trans (OnlyB.of_below B5)))
    refine wpAnyK_two (i := 12) (j := 14) (by kernel_rfl) rfl rfl (fun K hK => ?_) (fun K hK => ?_)
    · go_simp
      refine hK.out _ _ (fun _ _ => hS5) ?_
      clear hK K
      refine wpAnyK_one (i := 14) (by kernel_rfl) rfl (fun K hK => ?_)
      go_simp
      refine hK.out _ _ (fun h => absurd rfl h) ?_
      clear hK K
      refine wpAnyK_done (by kernel_rfl) ?_ _
      go_wp2_with fail
      exact bodyPost_end (results_none rfl _ _ _) rfl ⟨⟨_, rfl⟩, HF.out⟩
    · go_simp
      refine hK.out _ _ (fun h => absurd rfl h) ?_
      clear hK K
      refine wpAnyK_one (i := 12) (by kernel_rfl) rfl (fun K hK => ?_)
      go_simp
      refine hK.out _ _ (fun _ h => absurd h (by decide)) ?_
      clear hK K
      refine wpAnyK_done (by kernel_rfl) ?_ _
      go_wp2_with fail
      exact bodyPost_end (results_none rfl _ _ _) rfl ⟨⟨_, rfl⟩, HF.out⟩
  have q10 : (op == 10) = false := beq_no h10
  by_cases h18 : op = 18
  · have hL := HL2.out
    rw [if_neg h1, if_neg h2, if_neg h10, if_pos h18] at hL
    subst h18
    have HD := Hid.mk' (HM.out 3 (gS l a) (1, 1) (gS_ok ho ha) ⟨by unfold S8.Nm; decide, by unfold S8.Nm; decide⟩)
    clear HL2 HM h1 h2 h10 q1 q2 q10
    go_upto_region 9 with fail
    have hS0 : (fun w' => RgB w' g l ∧ w'.heap[w.heap.size]? = some (.cells #[.int .i64 18, .int .i64 (a : Int), .int .i64 (b : Int), .int .i64 (k : Int), .int .i64 xn] 57)) W.drew := ⟨hR.out, HX.out⟩
    have y0 : ∀ w', (fun w' => RgB w' g l ∧ w'.heap[w.heap.size]? = some (.cells #[.int .i64 18, .int .i64 (a : Int), .int .i64 (b : Int), .int .i64 (k : Int), .int .i64 xn] 57)) w' → w'.cell? ⟨w.heap.size, 0, none⟩ = some (.int .i64 18) := fun w' h => cell_of_obj h.2 rfl
    have y1 : ∀ w', (fun w' => RgB w' g l ∧ w'.heap[w.heap.size]? = some (.cells #[.int .i64 18, .int .i64 (a : Int), .int .i64 (b : Int), .int .i64 (k : Int), .int .i64 xn] 57)) w' → w'.cell? ⟨w.heap.size, 1, none⟩ = some (.int .i64 (a : Int)) := fun w' h => cell_of_obj h.2 rfl
    have y2 : ∀ w', (fun w' => RgB w' g l ∧ w'.heap[w.heap.size]? = some (.cells #[.int .i64 18, .int .i64 (a : Int), .int .i64 (b : Int), .int .i64 (k : Int), .int .i64 xn] 57)) w' → w'.cell? ⟨w.heap.size, 2, none⟩ = some (.int .i64 (b : Int)) := fun w' h => cell_of_obj h.2 rfl
    have y3 : ∀ w', (fun w' => RgB w' g l ∧ w'.heap[w.heap.size]? = some (.cells #[.int .i64 18, .int .i64 (a : Int), .int .i64 (b : Int), .int .i64 (k : Int), .int .i64 xn] 57)) w' → w'.cell? ⟨w.heap.size, 3, none⟩ = some (.int .i64 (k : Int)) := fun w' h => cell_of_obj h.2 rfl
    have y4 : ∀ w', (fun w' => RgB w' g l ∧ w'.heap[w.heap.size]? = some (.cells #[.int .i64 18, .int .i64 (a : Int), .int .i64 (b : Int), .int .i64 (k : Int), .int .i64 xn] 57)) w' → w'.cell? ⟨w.heap.size, 4, none⟩ = some (.int .i64 xn) := fun w' h => cell_of_obj h.2 rfl
    have za0 : ∀ w', (fun w' => RgB w' g l ∧ w'.heap[w.heap.size]? = some (.cells #[.int .i64 18, .int .i64 (a : Int), .int .i64 (b : Int), .int .i64 (k : Int), .int .i64 xn] 57)) w' → w'.cell? ⟨g, a * 2, none⟩ = some (.int .i64 (gS l a).1) := fun w' h => h.1.c0 ha
    have za1 : ∀ w', (fun w' => RgB w' g l ∧ w'.heap[w.heap.size]? = some (.cells #[.int .i64 18, .int .i64 (a : Int), .int .i64 (b : Int), .int .i64 (k : Int), .int .i64 xn] 57)) w' → w'.cell? ⟨g, a * 2 + 1, none⟩ = some (.int .i64 (gS l a).2) := fun w' h => h.1.c1 ha
    have zb0 : ∀ w', (fun w' => RgB w' g l ∧ w'.heap[w.heap.size]? = some (.cells #[.int .i64 18, .int .i64 (a : Int), .int .i64 (b : Int), .int .i64 (k : Int), .int .i64 xn] 57)) w' → w'.cell? ⟨g, b * 2, none⟩ = some (.int .i64 (gS l b).1) := fun w' h => h.1.c0 hb
    have zb1 : ∀ w', (fun w' => RgB w' g l ∧ w'.heap[w.heap.size]? = some (.cells #[.int .i64 18, .int .i64 (a : Int), .int .i64 (b : Int), .int .i64 (k : Int), .int .i64 xn] 57)) w' → w'.cell? ⟨g, b * 2 + 1, none⟩ = some (.int .i64 (gS l b).2) := fun w' h => h.1.c1 hb
    have zk0 : ∀ w', (fun w' => RgB w' g l ∧ w'.heap[w.heap.size]? = some (.cells #[.int .i64 18, .int .i64 (a : Int), .int .i64 (b : Int), .int .i64 (k : Int), .int .i64 xn] 57)) w' → w'.cell? ⟨g, k * 2, none⟩ = some (.int .i64 (gS l k).1) := fun w' h => h.1.c0 hc
    have zk1 : ∀ w', (fun w' => RgB w' g l ∧ w'.heap[w.heap.size]? = some (.cells #[.int .i64 18, .int .i64 (a : Int), .int .i64 (b : Int), .int .i64 (k : Int), .int .i64 xn] 57)) w' → w'.cell? ⟨g, k * 2 + 1, none⟩ = some (.int .i64 (gS l k).2) := fun w' h => h.1.c1 hc
    clear c0 c1 cf d0 d1 e0 e1 x0 x1 x2 x3 x4
    refine wp_region_K (fun w' => RgB w' g l ∧ w'.heap[w.heap.size]? = some (.cells #[.int .i64 18, .int .i64 (a : Int), .int .i64 (b : Int), .int .i64 (k : Int), .int .i64 xn] 57)) 14 (by kernel_rfl) ?_
    simp only [List.size_toArray, List.length_cons, List.length_nil, Nat.reduceAdd]
    refine wpAnyK_takeL (i := 0) (v := ?tvq18_0) rfl (by decide) (by kernel_rfl) (by kernel_rfl) (by kernel_rfl) (by kernel_rfl) (by kernel_rfl) (fun _ _ _ h => h) (by rfl) ?tyq18_0 hS0 ?trq18_0
    case tyq18_0 => (intro w' hSw; go_simp; try with_reducible rfl)
    simp only [Act.put, List.setIfInBounds_toArray, List.set_cons_zero, List.set_cons_succ]
    refine wpAnyK_takeL (i := 1) (v := ?tvq18_1) rfl (by decide) (by kernel_rfl) (by kernel_rfl) (by kernel_rfl) (by kernel_rfl) (by kernel_rfl) (fun _ _ _ h => h) (by rfl) ?tyq18_1 hS0 ?trq18_1
    case tyq18_1 => (intro w' hSw; go_simp; try with_reducible rfl)
    simp only [Act.put, List.setIfInBounds_toArray, List.set_cons_zero, List.set_cons_succ]
    refine wpAnyK_takeL (i := 2) (v := ?tvq18_2) rfl (by decide) (by kernel_rfl) (by kernel_rfl) (by kernel_rfl) (by kernel_rfl) (by kernel_rfl) (fun _ _ _ h => h) (by rfl) ?tyq18_2 hS0 ?trq18_2
    case tyq18_2 => (intro w' hSw; go_simp; try with_reducible rfl)
    simp only [Act.put, List.setIfInBounds_toArray, List.set_cons_zero, List.set_cons_succ]
    refine wpAnyK_takeL (i := 3) (v := ?tvq18_3) rfl (by decide) (by kernel_rfl) (by kernel_rfl) (by kernel_rfl) (by kernel_rfl) (by kernel_rfl) (fun _ _ _ h => h) (by rfl) ?tyq18_3 hS0 ?trq18_3
    case tyq18_3 => (intro w' hSw; go_simp; try with_reducible rfl)
    simp only [Act.put, List.setIfInBounds_toArray, List.set_cons_zero, List.set_cons_succ]
    refine wpAnyK_takeL (i := 4) (v := ?tvq18_4) rfl (by decide) (by kernel_rfl) (by kernel_rfl) (by kernel_rfl) (by kernel_rfl) (by kernel_rfl) (fun _ _ _ h => h) (by rfl) ?tyq18_4 hS0 ?trq18_4
    case tyq18_4 => (intro w' hSw; go_simp; try with_reducible rfl)
    simp only [Act.put, List.setIfInBounds_toArray, List.set_cons_zero, List.set_cons_succ]
    refine wpAnyK_takeL (i := 5) (v := ?tvq18_5) rfl (by decide) (by kernel_rfl) (by kernel_rfl) (by kernel_rfl) (by kernel_rfl) (by kernel_rfl) (fun _ _ _ h => h) (by rfl) ?tyq18_5 hS0 ?trq18_5
    case tyq18_5 => (intro w' hSw; go_simp; try with_reducible rfl)
    simp only [Act.put, List.setIfInBounds_toArray, List.set_cons_zero, List.set_cons_succ]
    refine wpAnyK_takeL (i := 6) (v := ?tvq18_6) rfl (by decide) (by kernel_rfl) (by kernel_rfl) (by kernel_rfl) (by kernel_rfl) (by kernel_rfl) (fun _ _ _ h => h) (by rfl) ?tyq18_6 hS0 ?trq18_6
    case tyq18_6 => (intro w' hSw; go_simp; try with_reducible rfl)
    simp only [Act.put, List.setIfInBounds_toArray, List.set_cons_zero, List.set_cons_succ]
    refine wpAnyK_takeL (i := 7) (v := ?tvq18_7) rfl (by decide) (by kernel_rfl) (by kernel_rfl) (by kernel_rfl) (by kernel_rfl) (by kernel_rfl) (fun _ _ _ h => h) (by rfl) ?tyq18_7 hS0 ?trq18_7
    case tyq18_7 => (intro w' hSw; go_simp; try with_reducible rfl)
    simp only [Act.put, List.setIfInBounds_toArray, List.set_cons_zero, List.set_cons_succ]
    refine wpAnyK_takeL (i := 8) (v := ?tvq18_8) rfl (by decide) (by kernel_rfl) (by kernel_rfl) (by kernel_rfl) (by kernel_rfl) (by kernel_rfl) (fun _ _ _ h => h) (by rfl) ?tyq18_8 hS0 ?trq18_8
    case tyq18_8 => (intro w' hSw; go_simp; try with_reducible rfl)
    simp only [Act.put, List.setIfInBounds_toArray, List.set_cons_zero, List.set_cons_succ]
    refine wpAnyK_one (i := 9) (by kernel_rfl) rfl (fun K hK => ?_)
    go_simp
    go_at_call 82
    refine (HD.out _).mono ?_
    rintro e w5 ⟨rfl, hb5⟩
    have B5 := Below.on (Below.drew (Below.refl _ W)) hb5
    have hS5 : (fun w' => RgB w' g l ∧ w'.heap[w.heap.size]? = some (.cells #[.int .i64 18, .int .i64 (a : Int), .int .i64 (b : Int), .int .i64 (k : Int), .int .i64 xn] 57)) w5 := ⟨hR.out.stay B5, (B5.block _ (Array.getElem?_eq_some_iff.1 HX.out).1).trans HX.out⟩
    refine hK.out _ _ (fun _ _ => hS5) ?_
    clear hK K
    refine wpAnyK_takeL (i := 10) (v := ?tvq18_10) rfl (by decide) (by kernel_rfl) (by kernel_rfl) (by kernel_rfl) (by kernel_rfl) (by kernel_rfl) (fun _ _ _ h => h) (by rfl) ?tyq18_10 hS5 ?trq18_10
    case tyq18_10 => (intro w' hSw; go_simp; try with_reducible rfl)
    simp only [Act.put, List.setIfInBounds_toArray, List.set_cons_zero, List.set_cons_succ]
    refine wpAnyK_takeL (i := 11) (v := ?tvq18_11) rfl (by decide) (by kernel_rfl) (by kernel_rfl) (by kernel_rfl) (by kernel_rfl) (by kernel_rfl) (fun _ _ _ h => h) (by rfl) ?tyq18_11 hS5 ?trq18_11
    case tyq18_11 => (intro w' hSw; go_simp; try with_reducible rfl)
    simp only [Act.put, List.setIfInBounds_toArray, List.set_cons_zero, List.set_cons_succ]
    refine wpAnyK_takeL (i := 13) (v := ?tvq18_13) rfl (by decide) (by kernel_rfl) (by kernel_rfl) (by kernel_rfl) (by kernel_rfl) (by kernel_rfl) (fun _ _ _ h => h) (by rfl) ?tyq18_13 hS5 ?trq18_13
    case tyq18_13 => (intro w' hSw; go_simp; try with_reducible rfl)
    simp only [Act.put, List.setIfInBounds_toArray, List.set_cons_zero, List.set_cons_succ]
    have c0 := hS5.1.c0 ha
    have c1 := hS5.1.c1 ha
    have cf := fun j => hS5.1.fz j
    have HF := Hid.mk' (HEND.out w5 _ hL.symm hS5.1 (HOW.out.trans (OnlyB.of_below B5)))
    refine wpAnyK_two (i := 12) (j := 14) (by kernel_rfl) rfl rfl (fun K hK => ?_) (fun K hK => ?_)
    · go_simp
      refine hK.out _ _ (fun _ _ => hS5) ?_
      clear hK K
      refine wpAnyK_one (i := 14) (by kernel_rfl) rfl (fun K hK => ?_)
      go_simp
      refine hK.out _ _ (fun h => absurd rfl h) ?_
      clear hK K
      refine wpAnyK_done (by kernel_rfl) ?_ _
      go_wp2_with fail
      exact bodyPost_end (results_none rfl _ _ _) rfl ⟨⟨_, rfl⟩, HF.out⟩
    · go_simp
      refine hK.out _ _ (fun h => absurd rfl h) ?_
      clear hK K
      refine wpAnyK_one (i := 12) (by kernel_rfl) rfl (fun K hK => ?_)
      go_simp
      refine hK.out _ _ (fun _ h => absurd h (by decide)) ?_
      clear hK K
      refine wpAnyK_done (by kernel_rfl) ?_ _
      go_wp2_with fail
      exact bodyPost_end (results_none rfl _ _ _) rfl ⟨⟨_, rfl⟩, HF.out⟩
  have q18 : (op == 18) = false := beq_no h18
  by_cases h5 : op = 3 ∨ op = 4 ∨ op = 5 ∨ op = 8 ∨ op = 9
  · have hL := HL2.out
    rw [if_neg h1, if_neg h2, if_neg h10, if_neg h18, if_pos h5] at hL
    have HD := Hid.mk' (HM.out op (gS l b) (gS l k) (gS_ok ho hb) (gS_ok ho hc))
    clear HL2 HM h1 h2 h10 h18
    rcases h5 with h | h | h | h | h
    · subst h
      go_upto_region 15 with fail
      have hS0 : (fun w' => RgB w' g l ∧ w'.heap[w.heap.size]? = some (.cells #[.int .i64 3, .int .i64 (a : Int), .int .i64 (b : Int), .int .i64 (k : Int), .int .i64 xn] 57)) W.drew := ⟨hR.out, HX.out⟩
      have y0 : ∀ w', (fun w' => RgB w' g l ∧ w'.heap[w.heap.size]? = some (.cells #[.int .i64 3, .int .i64 (a : Int), .int .i64 (b : Int), .int .i64 (k : Int), .int .i64 xn] 57)) w' → w'.cell? ⟨w.heap.size, 0, none⟩ = some (.int .i64 3) := fun w' h => cell_of_obj h.2 rfl
      have y1 : ∀ w', (fun w' => RgB w' g l ∧ w'.heap[w.heap.size]? = some (.cells #[.int .i64 3, .int .i64 (a : Int), .int .i64 (b : Int), .int .i64 (k : Int), .int .i64 xn] 57)) w' → w'.cell? ⟨w.heap.size, 1, none⟩ = some (.int .i64 (a : Int)) := fun w' h => cell_of_obj h.2 rfl
      have y2 : ∀ w', (fun w' => RgB w' g l ∧ w'.heap[w.heap.size]? = some (.cells #[.int .i64 3, .int .i64 (a : Int), .int .i64 (b : Int), .int .i64 (k : Int), .int .i64 xn] 57)) w' → w'.cell? ⟨w.heap.size, 2, none⟩ = some (.int .i64 (b : Int)) := fun w' h => cell_of_obj h.2 rfl
      have y3 : ∀ w', (fun w' => RgB w' g l ∧ w'.heap[w.heap.size]? = some (.cells #[.int .i64 3, .int .i64 (a : Int), .int .i64 (b : Int), .int .i64 (k : Int), .int .i64 xn] 57)) w' → w'.cell? ⟨w.heap.size, 3, none⟩ = some (.int .i64 (k : Int)) := fun w' h => cell_of_obj h.2 rfl
      have y4 : ∀ w', (fun w' => RgB w' g l ∧ w'.heap[w.heap.size]? = some (.cells #[.int .i64 3, .int .i64 (a : Int), .int .i64 (b : Int), .int .i64 (k : Int), .int .i64 xn] 57)) w' → w'.cell? ⟨w.heap.size, 4, none⟩ = some (.int .i64 xn) := fun w' h => cell_of_obj h.2 rfl
      have za0 : ∀ w', (fun w' => RgB w' g l ∧ w'.heap[w.heap.size]? = some (.cells #[.int .i64 3, .int .i64 (a : Int), .int .i64 (b : Int), .int .i64 (k : Int), .int .i64 xn] 57)) w' → w'.cell? ⟨g, a * 2, none⟩ = some (.int .i64 (gS l a).1) := fun w' h => h.1.c0 ha
      have za1 : ∀ w', (fun w' => RgB w' g l ∧ w'.heap[w.heap.size]? = some (.cells #[.int .i64 3, .int .i64 (a : Int), .int .i64 (b : Int), .int .i64 (k : Int), .int .i64 xn] 57)) w' → w'.cell? ⟨g, a * 2 + 1, none⟩ = some (.int .i64 (gS l a).2) := fun w' h => h.1.c1 ha
      have zb0 : ∀ w', (fun w' => RgB w' g l ∧ w'.heap[w.heap.size]? = some (.cells #[.int .i64 3, .int .i64 (a : Int), .int .i64 (b : Int), .int .i64 (k : Int), .int .i64 xn] 57)) w' → w'.cell? ⟨g, b * 2, none⟩ = some (.int .i64 (gS l b).1) := fun w' h => h.1.c0 hb
      have zb1 : ∀ w', (fun w' => RgB w' g l ∧ w'.heap[w.heap.size]? = some (.cells #[.int .i64 3, .int .i64 (a : Int), .int .i64 (b : Int), .int .i64 (k : Int), .int .i64 xn] 57)) w' → w'.cell? ⟨g, b * 2 + 1, none⟩ = some (.int .i64 (gS l b).2) := fun w' h => h.1.c1 hb
      have zk0 : ∀ w', (fun w' => RgB w' g l ∧ w'.heap[w.heap.size]? = some (.cells #[.int .i64 3, .int .i64 (a : Int), .int .i64 (b : Int), .int .i64 (k : Int), .int .i64 xn] 57)) w' → w'.cell? ⟨g, k * 2, none⟩ = some (.int .i64 (gS l k).1) := fun w' h => h.1.c0 hc
      have zk1 : ∀ w', (fun w' => RgB w' g l ∧ w'.heap[w.heap.size]? = some (.cells #[.int .i64 3, .int .i64 (a : Int), .int .i64 (b : Int), .int .i64 (k : Int), .int .i64 xn] 57)) w' → w'.cell? ⟨g, k * 2 + 1, none⟩ = some (.int .i64 (gS l k).2) := fun w' h => h.1.c1 hc
      clear c0 c1 cf d0 d1 e0 e1 x0 x1 x2 x3 x4
      refine wp_region_K (fun w' => RgB w' g l ∧ w'.heap[w.heap.size]? = some (.cells #[.int .i64 3, .int .i64 (a : Int), .int .i64 (b : Int), .int .i64 (k : Int), .int .i64 xn] 57)) 20 (by kernel_rfl) ?_
      simp only [List.size_toArray, List.length_cons, List.length_nil, Nat.reduceAdd]
      refine wpAnyK_takeL (i := 0) (v := ?tvq3_0) rfl (by decide) (by kernel_rfl) (by kernel_rfl) (by kernel_rfl) (by kernel_rfl) (by kernel_rfl) (fun _ _ _ h => h) (by rfl) ?tyq3_0 hS0 ?trq3_0
      case tyq3_0 => (intro w' hSw; go_simp; try with_reducible rfl)
      simp only [Act.put, List.setIfInBounds_toArray, List.set_cons_zero, List.set_cons_succ]
      refine wpAnyK_takeL (i := 1) (v := ?tvq3_1) rfl (by decide) (by kernel_rfl) (by kernel_rfl) (by kernel_rfl) (by kernel_rfl) (by kernel_rfl) (fun _ _ _ h => h) (by rfl) ?tyq3_1 hS0 ?trq3_1
      case tyq3_1 => (intro w' hSw; go_simp; try with_reducible rfl)
      simp only [Act.put, List.setIfInBounds_toArray, List.set_cons_zero, List.set_cons_succ]
      refine wpAnyK_takeL (i := 2) (v := ?tvq3_2) rfl (by decide) (by kernel_rfl) (by kernel_rfl) (by kernel_rfl) (by kernel_rfl) (by kernel_rfl) (fun _ _ _ h => h) (by rfl) ?tyq3_2 hS0 ?trq3_2
      case tyq3_2 => (intro w' hSw; go_simp; try with_reducible rfl)
      simp only [Act.put, List.setIfInBounds_toArray, List.set_cons_zero, List.set_cons_succ]
      refine wpAnyK_takeL (i := 3) (v := ?tvq3_3) rfl (by decide) (by kernel_rfl) (by kernel_rfl) (by kernel_rfl) (by kernel_rfl) (by kernel_rfl) (fun _ _ _ h => h) (by rfl) ?tyq3_3 hS0 ?trq3_3
      case tyq3_3 => (intro w' hSw; go_simp; try with_reducible rfl)
      simp only [Act.put, List.setIfInBounds_toArray, List.set_cons_zero, List.set_cons_succ]
      refine wpAnyK_takeL (i := 4) (v := ?tvq3_4) rfl (by decide) (by kernel_rfl) (by kernel_rfl) (by kernel_rfl) (by kernel_rfl) (by kernel_rfl) (fun _ _ _ h => h) (by rfl) ?tyq3_4 hS0 ?trq3_4
      case tyq3_4 => (intro w' hSw; go_simp; try with_reducible rfl)
      simp only [Act.put, List.setIfInBounds_toArray, List.set_cons_zero, List.set_cons_succ]
      refine wpAnyK_takeL (i := 5) (v := ?tvq3_5) rfl (by decide) (by kernel_rfl) (by kernel_rfl) (by kernel_rfl) (by kernel_rfl) (by kernel_rfl) (fun _ _ _ h => h) (by rfl) ?tyq3_5 hS0 ?trq3_5
      case tyq3_5 => (intro w' hSw; go_simp; try with_reducible rfl)
      simp only [Act.put, List.setIfInBounds_toArray, List.set_cons_zero, List.set_cons_succ]
      refine wpAnyK_takeL (i := 6) (v := ?tvq3_6) rfl (by decide) (by kernel_rfl) (by kernel_rfl) (by kernel_rfl) (by kernel_rfl) (by kernel_rfl) (fun _ _ _ h => h) (by rfl) ?tyq3_6 hS0 ?trq3_6
      case tyq3_6 => (intro w' hSw; go_simp; try with_reducible rfl)
      simp only [Act.put, List.setIfInBounds_toArray, List.set_cons_zero, List.set_cons_succ]
      refine wpAnyK_takeL (i := 7) (v := ?tvq3_7) rfl (by decide) (by kernel_rfl) (by kernel_rfl) (by kernel_rfl) (by kernel_rfl) (by kernel_rfl) (fun _ _ _ h => h) (by rfl) ?tyq3_7 hS0 ?trq3_7
      case tyq3_7 => (intro w' hSw; go_simp; try with_reducible rfl)
      simp only [Act.put, List.setIfInBounds_toArray, List.set_cons_zero, List.set_cons_succ]
      refine wpAnyK_takeL (i := 8) (v := ?tvq3_8) rfl (by decide) (by kernel_rfl) (by kernel_rfl) (by kernel_rfl) (by kernel_rfl) (by kernel_rfl) (fun _ _ _ h => h) (by rfl) ?tyq3_8 hS0 ?trq3_8
      case tyq3_8 => (intro w' hSw; go_simp; try with_reducible rfl)
      simp only [Act.put, List.setIfInBounds_toArray, List.set_cons_zero, List.set_cons_succ]
      refine wpAnyK_takeL (i := 9) (v := ?tvq3_9) rfl (by decide) (by kernel_rfl) (by kernel_rfl) (by kernel_rfl) (by kernel_rfl) (by kernel_rfl) (fun _ _ _ h => h) (by rfl) ?tyq3_9 hS0 ?trq3_9
      case tyq3_9 => (intro w' hSw; go_simp; try with_reducible rfl)
      simp only [Act.put, List.setIfInBounds_toArray, List.set_cons_zero, List.set_cons_succ]
      refine wpAnyK_takeL (i := 10) (v := ?tvq3_10) rfl (by decide) (by kernel_rfl) (by kernel_rfl) (by kernel_rfl) (by kernel_rfl) (by kernel_rfl) (fun _ _ _ h => h) (by rfl) ?tyq3_10 hS0 ?trq3_10
      case tyq3_10 => (intro w' hSw; go_simp; try with_reducible rfl)
      simp only [Act.put, List.setIfInBounds_toArray, List.set_cons_zero, List.set_cons_succ]
      refine wpAnyK_takeL (i := 11) (v := ?tvq3_11) rfl (by decide) (by kernel_rfl) (by kernel_rfl) (by kernel_rfl) (by kernel_rfl) (by kernel_rfl) (fun _ _ _ h => h) (by rfl) ?tyq3_11 hS0 ?trq3_11
      case tyq3_11 => (intro w' hSw; go_simp; try with_reducible rfl)
      simp only [Act.put, List.setIfInBounds_toArray, List.set_cons_zero, List.set_cons_succ]
      refine wpAnyK_takeL (i := 12) (v := ?tvq3_12) rfl (by decide) (by kernel_rfl) (by kernel_rfl) (by kernel_rfl) (by kernel_rfl) (by kernel_rfl) (fun _ _ _ h => h) (by rfl) ?tyq3_12 hS0 ?trq3_12
      case tyq3_12 => (intro w' hSw; go_simp; try with_reducible rfl)
      simp only [Act.put, List.setIfInBounds_toArray, List.set_cons_zero, List.set_cons_succ]
      refine wpAnyK_takeL (i := 13) (v := ?tvq3_13) rfl (by decide) (by kernel_rfl) (by kernel_rfl) (by kernel_rfl) (by kernel_rfl) (by kernel_rfl) (fun _ _ _ h => h) (by rfl) ?tyq3_13 hS0 ?trq3_13
      case tyq3_13 => (intro w' hSw; go_simp; try with_reducible rfl)
      simp only [Act.put, List.setIfInBounds_toArray, List.set_cons_zero, List.set_cons_succ]
      refine wpAnyK_takeL (i := 14) (v := ?tvq3_14) rfl (by decide) (by kernel_rfl) (by kernel_rfl) (by kernel_rfl) (by kernel_rfl) (by kernel_rfl) (fun _ _ _ h => h) (by rfl) ?tyq3_14 hS0 ?trq3_14
      case tyq3_14 => (intro w' hSw; go_simp; try with_reducible rfl)
      simp only [Act.put, List.setIfInBounds_toArray, List.set_cons_zero, List.set_cons_succ]
      refine wpAnyK_one (i := 15) (by kernel_rfl) rfl (fun K hK => ?_)
      go_simp
      go_at_call 82
      refine (HD.out _).mono ?_
      rintro e w5 ⟨rfl, hb5⟩
      have B5 := Below.on (Below.drew (Below.refl _ W)) hb5
      have hS5 : (fun w' => RgB w' g l ∧ w'.heap[w.heap.size]? = some (.cells #[.int .i64 3, .int .i64 (a : Int), .int .i64 (b : Int), .int .i64 (k : Int), .int .i64 xn] 57)) w5 := ⟨hR.out.stay B5, (B5.block _ (Array.getElem?_eq_some_iff.1 HX.out).1).trans HX.out⟩
      refine hK.out _ _ (fun _ _ => hS5) ?_
      clear hK K
      refine wpAnyK_takeL (i := 16) (v := ?tvq3_16) rfl (by decide) (by kernel_rfl) (by kernel_rfl) (by kernel_rfl) (by kernel_rfl) (by kernel_rfl) (fun _ _ _ h => h) (by rfl) ?tyq3_16 hS5 ?trq3_16
      case tyq3_16 => (intro w' hSw; go_simp; try with_reducible rfl)
      simp only [Act.put, List.setIfInBounds_toArray, List.set_cons_zero, List.set_cons_succ]
      refine wpAnyK_takeL (i := 17) (v := ?tvq3_17) rfl (by decide) (by kernel_rfl) (by kernel_rfl) (by kernel_rfl) (by kernel_rfl) (by kernel_rfl) (fun _ _ _ h => h) (by rfl) ?tyq3_17 hS5 ?trq3_17
      case tyq3_17 => (intro w' hSw; go_simp; try with_reducible rfl)
      simp only [Act.put, List.setIfInBounds_toArray, List.set_cons_zero, List.set_cons_succ]
      refine wpAnyK_takeL (i := 19) (v := ?tvq3_19) rfl (by decide) (by kernel_rfl) (by kernel_rfl) (by kernel_rfl) (by kernel_rfl) (by kernel_rfl) (fun _ _ _ h => h) (by rfl) ?tyq3_19 hS5 ?trq3_19
      case tyq3_19 => (intro w' hSw; go_simp; try with_reducible rfl)
      simp only [Act.put, List.setIfInBounds_toArray, List.set_cons_zero, List.set_cons_succ]
      have c0 := hS5.1.c0 ha
      have c1 := hS5.1.c1 ha
      have cf := fun j => hS5.1.fz j
      have HF := Hid.mk' (HEND.out w5 _ hL.symm hS5.1 (HOW.out.trans (OnlyB.of_below B5)))
      refine wpAnyK_two (i := 18) (j := 20) (by kernel_rfl) rfl rfl (fun K hK => ?_) (fun K hK => ?_)
      · go_simp
        refine hK.out _ _ (fun _ _ => hS5) ?_
        clear hK K
        refine wpAnyK_one (i := 20) (by kernel_rfl) rfl (fun K hK => ?_)
        go_simp
        refine hK.out _ _ (fun h => absurd rfl h) ?_
        clear hK K
        refine wpAnyK_done (by kernel_rfl) ?_ _
        go_wp2_with fail
        exact bodyPost_end (results_none rfl _ _ _) rfl ⟨⟨_, rfl⟩, HF.out⟩
      · go_simp
        refine hK.out _ _ (fun h => absurd rfl h) ?_
        clear hK K
        refine wpAnyK_one (i := 18) (by kernel_rfl) rfl (fun K hK => ?_)
        go_simp
        refine hK.out _ _ (fun _ h => absurd h (by decide)) ?_
        clear hK K
        refine wpAnyK_done (by kernel_rfl) ?_ _
        go_wp2_with fail
        exact bodyPost_end (results_none rfl _ _ _) rfl ⟨⟨_, rfl⟩, HF.out⟩
    · subst h
      go_upto_region 15 with fail
      have hS0 : (fun w' => RgB w' g l ∧ w'.heap[w.heap.size]? = some (.cells #[.int .i64 4, .int .i64 (a : Int), .int .i64 (b : Int), .int .i64 (k : Int), .int .i64 xn] 57)) W.drew := ⟨hR.out, HX.out⟩
      have y0 : ∀ w', (fun w' => RgB w' g l ∧ w'.heap[w.heap.size]? = some (.cells #[.int .i64 4, .int .i64 (a : Int), .int .i64 (b : Int), .int .i64 (k : Int), .int .i64 xn] 57)) w' → w'.cell? ⟨w.heap.size, 0, none⟩ = some (.int .i64 4) := fun w' h => cell_of_obj h.2 rfl
      have y1 : ∀ w', (fun w' => RgB w' g l ∧ w'.heap[w.heap.size]? = some (.cells #[.int .i64 4, .int .i64 (a : Int), .int .i64 (b : Int), .int .i64 (k : Int), .int .i64 xn] 57)) w' → w'.cell? ⟨w.heap.size, 1, none⟩ = some (.int .i64 (a : Int)) := fun w' h => cell_of_obj h.2 rfl
      have y2 : ∀ w', (fun w' => RgB w' g l ∧ w'.heap[w.heap.size]? = some (.cells #[.int .i64 4, .int .i64 (a : Int), .int .i64 (b : Int), .int .i64 (k : Int), .int .i64 xn] 57)) w' → w'.cell? ⟨w.heap.size, 2, none⟩ = some (.int .i64 (b : Int)) := fun w' h => cell_of_obj h.2 rfl
      have y3 : ∀ w', (fun w' => RgB w' g l ∧ w'.heap[w.heap.size]? = some (.cells #[.int .i64 4, .int .i64 (a : Int), .int .i64 (b : Int), .int .i64 (k : Int), .int .i64 xn] 57)) w' → w'.cell? ⟨w.heap.size, 3, none⟩ = some (.int .i64 (k : Int)) := fun w' h => cell_of_obj h.2 rfl
      have y4 : ∀ w', (fun w' => RgB w' g l ∧ w'.heap[w.heap.size]? = some (.cells #[.int .i64 4, .int .i64 (a : Int), .int .i64 (b : Int), .int .i64 (k : Int), .int .i64 xn] 57)) w' → w'.cell? ⟨w.heap.size, 4, none⟩ = some (.int .i64 xn) := fun w' h => cell_of_obj h.2 rfl
      have za0 : ∀ w', (fun w' => RgB w' g l ∧ w'.heap[w.heap.size]? = some (.cells #[.int .i64 4, .int .i64 (a : Int), .int .i64 (b : Int), .int .i64 (k : Int), .int .i64 xn] 57)) w' → w'.cell? ⟨g, a * 2, none⟩ = some (.int .i64 (gS l a).1) := fun w' h => h.1.c0 ha
      have za1 : ∀ w', (fun w' => RgB w' g l ∧ w'.heap[w.heap.size]? = some (.cells #[.int .i64 4, .int .i64 (a : Int), .int .i64 (b : Int), .int .i64 (k : Int), .int .i64 xn] 57)) w' → w'.cell? ⟨g, a * 2 + 1, none⟩ = some (.int .i64 (gS l a).2) := fun w' h => h.1.c1 ha
      have zb0 : ∀ w', (fun w' => RgB w' g l ∧ w'.heap[w.heap.size]? = some (.cells #[.int .i64 4, .int .i64 (a : Int), .int .i64 (b : Int), .int .i64 (k : Int), .int .i64 xn] 57)) w' → w'.cell? ⟨g, b * 2, none⟩ = some (.int .i64 (gS l b).1) := fun w' h => h.1.c0 hb
      have zb1 : ∀ w', (fun w' => RgB w' g l ∧ w'.heap[w.heap.size]? = some (.cells #[.int .i64 4, .int .i64 (a : Int), .int .i64 (b : Int), .int .i64 (k : Int), .int .i64 xn] 57)) w' → w'.cell? ⟨g, b * 2 + 1, none⟩ = some (.int .i64 (gS l b).2) := fun w' h => h.1.c1 hb
      have zk0 : ∀ w', (fun w' => RgB w' g l ∧ w'.heap[w.heap.size]? = some (.cells #[.int .i64 4, .int .i64 (a : Int), .int .i64 (b : Int), .int .i64 (k : Int), .int .i64 xn] 57)) w' → w'.cell? ⟨g, k * 2, none⟩ = some (.int .i64 (gS l k).1) := fun w' h => h.1.c0 hc
      have zk1 : ∀ w', (fun w' => RgB w' g l ∧ w'.heap[w.heap.size]? = some (.cells #[.int .i64 4, .int .i64 (a : Int), .int .i64 (b : Int), .int .i64 (k : Int), .int .i64 xn] 57)) w' → w'.cell? ⟨g, k * 2 + 1, none⟩ = some (.int .i64 (gS l k).2) := fun w' h => h.1.c1 hc
      clear c0 c1 cf d0 d1 e0 e1 x0 x1 x2 x3 x4
      refine wp_region_K (fun w' => RgB w' g l ∧ w'.heap[w.heap.size]? = some (.cells #[.int .i64 4, .int .i64 (a : Int), .int .i64 (b : Int), .int .i64 (k : Int), .int .i64 xn] 57)) 20 (by kernel_rfl) ?_
      simp only [List.size_toArray, List.length_cons, List.length_nil, Nat.reduceAdd]
      refine wpAnyK_takeL (i := 0) (v := ?tvq4_0) rfl (by decide) (by kernel_rfl) (by kernel_rfl) (by kernel_rfl) (by kernel_rfl) (by kernel_rfl) (fun _ _ _ h => h) (by rfl) ?tyq4_0 hS0 ?trq4_0
      case tyq4_0 => (intro w' hSw; go_simp; try with_reducible rfl)
      simp only [Act.put, List.setIfInBounds_toArray, List.set_cons_zero, List.set_cons_succ]
      refine wpAnyK_takeL (i := 1) (v := ?tvq4_1) rfl (by decide) (by kernel_rfl) (by kernel_rfl) (by kernel_rfl) (by kernel_rfl) (by kernel_rfl) (fun _ _ _ h => h) (by rfl) ?tyq4_1 hS0 ?trq4_1
      case tyq4_1 => (intro w' hSw; go_simp; try with_reducible rfl)
      simp only [Act.put, List.setIfInBounds_toArray, List.set_cons_zero, List.set_cons_succ]
      refine wpAnyK_takeL (i := 2) (v := ?tvq4_2) rfl (by decide) (by kernel_rfl) (by kernel_rfl) (by kernel_rfl) (by kernel_rfl) (by kernel_rfl) (fun _ _ _ h => h) (by rfl) ?tyq4_2 hS0 ?trq4_2
      case tyq4_2 => (intro w' hSw; go_simp; try with_reducible rfl)
      simp only [Act.put, List.setIfInBounds_toArray, List.set_cons_zero, List.set_cons_succ]
      refine wpAnyK_takeL (i := 3) (v := ?tvq4_3) rfl (by decide) (by kernel_rfl) (by kernel_rfl) (by kernel_rfl) (by kernel_rfl) (by kernel_rfl) (fun _ _ _ h => h) (by rfl) ?tyq4_3 hS0 ?trq4_3
      case tyq4_3 => (intro w' hSw; go_simp; try with_reducible rfl)
      simp only [Act.put, List.setIfInBounds_toArray, List.set_cons_zero, List.set_cons_succ]
      refine wpAnyK_takeL (i := 4) (v := ?tvq4_4) rfl (by decide) (by kernel_rfl) (by kernel_rfl) (by kernel_rfl) (by kernel_rfl) (by kernel_rfl) (fun _ _ _ h => h) (by rfl) ?tyq4_4 hS0 ?trq4_4
      case tyq4_4 => (intro w' hSw; go_simp; try with_reducible rfl)
      simp only [Act.put, List.setIfInBounds_toArray, List.set_cons_zero, List.set_cons_succ]
      refine wpAnyK_takeL (i := 5) (v := ?tvq4_5) rfl (by decide) (by kernel_rfl) (by kernel_rfl) (by kernel_rfl) (by kernel_rfl) (by kernel_rfl) (fun _ _ _ h => h) (by rfl) ?tyq4_5 hS0 ?trq4_5
      case tyq4_5 => (intro w' hSw; go_simp; try with_reducible rfl)
      simp only [Act.put, List.setIfInBounds_toArray, List.set_cons_zero, List.set_cons_succ]
      refine wpAnyK_takeL (i := 6) (v := ?tvq4_6) rfl (by decide) (by kernel_rfl) (by kernel_rfl) (by kernel_rfl) (by kernel_rfl) (by kernel_rfl) (fun _ _ _ h => h) (by rfl) ?tyq4_6 hS0 ?trq4_6
      case tyq4_6 => (intro w' hSw; go_simp; try with_reducible rfl)
      simp only [Act.put, List.setIfInBounds_toArray, List.set_cons_zero, List.set_cons_succ]
      refine wpAnyK_takeL (i := 7) (v := ?tvq4_7) rfl (by decide) (by kernel_rfl) (by kernel_rfl) (by kernel_rfl) (by kernel_rfl) (by kernel_rfl) (fun _ _ _ h => h) (by rfl) ?tyq4_7 hS0 ?trq4_7
      case tyq4_7 => (intro w' hSw; go_simp; try with_reducible rfl)
      simp only [Act.put, List.setIfInBounds_toArray, List.set_cons_zero, List.set_cons_succ]
      refine wpAnyK_takeL (i := 8) (v := ?tvq4_8) rfl (by decide) (by kernel_rfl) (by kernel_rfl) (by kernel_rfl) (by kernel_rfl) (by kernel_rfl) (fun _ _ _ h => h) (by rfl) ?tyq4_8 hS0 ?trq4_8
      case tyq4_8 => (intro w' hSw; go_simp; try with_reducible rfl)
      simp only [Act.put, List.setIfInBounds_toArray, List.set_cons_zero, List.set_cons_succ]
      refine wpAnyK_takeL (i := 9) (v := ?tvq4_9) rfl (by decide) (by kernel_rfl) (by kernel_rfl) (by kernel_rfl) (by kernel_rfl) (by kernel_rfl) (fun _ _ _ h => h) (by rfl) ?tyq4_9 hS0 ?trq4_9
      case tyq4_9 => (intro w' hSw; go_simp; try with_reducible rfl)
      simp only [Act.put, List.setIfInBounds_toArray, List.set_cons_zero, List.set_cons_succ]
      refine wpAnyK_takeL (i := 10) (v := ?tvq4_10) rfl (by decide) (by kernel_rfl) (by kernel_rfl) (by kernel_rfl) (by kernel_rfl) (by kernel_rfl) (fun _ _ _ h => h) (by rfl) ?tyq4_10 hS0 ?trq4_10
      case tyq4_10 => (intro w' hSw; go_simp; try with_reducible rfl)
      simp only [Act.put, List.setIfInBounds_toArray, List.set_cons_zero, List.set_cons_succ]
      refine wpAnyK_takeL (i := 11) (v := ?tvq4_11) rfl (by decide) (by kernel_rfl) (by kernel_rfl) (by kernel_rfl) (by kernel_rfl) (by kernel_rfl) (fun _ _ _ h => h) (by rfl) ?tyq4_11 hS0 ?trq4_11
      case tyq4_11 => (intro w' hSw; go_simp; try with_reducible rfl)
      simp only [Act.put, List.setIfInBounds_toArray, List.set_cons_zero, List.set_cons_succ]
      refine wpAnyK_takeL (i := 12) (v := ?tvq4_12) rfl (by decide) (by kernel_rfl) (by kernel_rfl) (by kernel_rfl) (by kernel_rfl) (by kernel_rfl) (fun _ _ _ h => h) (by rfl) ?tyq4_12 hS0 ?trq4_12
      case tyq4_12 => (intro w' hSw; go_simp; try with_reducible rfl)
      simp only [Act.put, List.setIfInBounds_toArray, List.set_cons_zero, List.set_cons_succ]
      refine wpAnyK_takeL (i := 13) (v := ?tvq4_13) rfl (by decide) (by kernel_rfl) (by kernel_rfl) (by kernel_rfl) (by kernel_rfl) (by kernel_rfl) (fun _ _ _ h => h) (by rfl) ?tyq4_13 hS0 ?trq4_13
      case tyq4_13 => (intro w' hSw; go_simp; try with_reducible rfl)
      simp only [Act.put, List.setIfInBounds_toArray, List.set_cons_zero, List.set_cons_succ]
      refine wpAnyK_takeL (i := 14) (v := ?tvq4_14) rfl (by decide) (by kernel_rfl) (by kernel_rfl) (by kernel_rfl) (by kernel_rfl) (by kernel_rfl) (fun _ _ _ h => h) (by rfl) ?tyq4_14 hS0 ?trq4_14
      case tyq4_14 => (intro w' hSw; go_simp; try with_reducible rfl)
      simp only [Act.put, List.setIfInBounds_toArray, List.set_cons_zero, List.set_cons_succ]
      refine wpAnyK_one (i := 15) (by kernel_rfl) rfl (fun K hK => ?_)
      go_simp
      go_at_call 82
      refine (HD.out _).mono ?_
      rintro e w5 ⟨rfl, hb5⟩
      have B5 := Below.on (Below.drew (Below.refl _ W)) hb5
      have hS5 : (fun w' => RgB w' g l ∧ w'.heap[w.heap.size]? = some (.cells #[.int .i64 4, .int .i64 (a : Int), .int .i64 (b : Int), .int .i64 (k : Int), .int .i64 xn] 57)) w5 := ⟨hR.out.stay B5, (B5.block _ (Array.getElem?_eq_some_iff.1 HX.out).1).trans HX.out⟩
      refine hK.out _ _ (fun _ _ => hS5) ?_
      clear hK K
      refine wpAnyK_takeL (i := 16) (v := ?tvq4_16) rfl (by decide) (by kernel_rfl) (by kernel_rfl) (by kernel_rfl) (by kernel_rfl) (by kernel_rfl) (fun _ _ _ h => h) (by rfl) ?tyq4_16 hS5 ?trq4_16
      case tyq4_16 => (intro w' hSw; go_simp; try with_reducible rfl)
      simp only [Act.put, List.setIfInBounds_toArray, List.set_cons_zero, List.set_cons_succ]
      refine wpAnyK_takeL (i := 17) (v := ?tvq4_17) rfl (by decide) (by kernel_rfl) (by kernel_rfl) (by kernel_rfl) (by kernel_rfl) (by kernel_rfl) (fun _ _ _ h => h) (by rfl) ?tyq4_17 hS5 ?trq4_17
      case tyq4_17 => (intro w' hSw; go_simp; try with_reducible rfl)
      simp only [Act.put, List.setIfInBounds_toArray, List.set_cons_zero, List.set_cons_succ]
      refine wpAnyK_takeL (i := 19) (v := ?tvq4_19) rfl (by decide) (by kernel_rfl) (by kernel_rfl) (by kernel_rfl) (by kernel_rfl) (by kernel_rfl) (fun _ _ _ h => h) (by rfl) ?tyq4_19 hS5 ?trq4_19
      case tyq4_19 => (intro w' hSw; go_simp; try with_reducible rfl)
      simp only [Act.put, List.setIfInBounds_toArray, List.set_cons_zero, List.set_cons_succ]
      have c0 := hS5.1.c0 ha
      have c1 := hS5.1.c1 ha
      have cf := fun j => hS5.1.fz j
      have HF := Hid.mk' (HEND.out w5 _ hL.symm hS5.1 (HOW.out.trans (OnlyB.of_below B5)))
      refine wpAnyK_two (i := 18) (j := 20) (by kernel_rfl) rfl rfl (fun K hK => ?_) (fun K hK => ?_)
      · go_simp
        refine hK.out _ _ (fun _ _ => hS5) ?_
        clear hK K
        refine wpAnyK_one (i := 20) (by kernel_rfl) rfl (fun K hK => ?_)
        go_simp
        refine hK.out _ _ (fun h => absurd rfl h) ?_
        clear hK K
        refine wpAnyK_done (by kernel_rfl) ?_ _
        go_wp2_with fail
        exact bodyPost_end (results_none rfl _ _ _) rfl ⟨⟨_, rfl⟩, HF.out⟩
      · go_simp
        refine hK.out _ _ (fun h => absurd rfl h) ?_
        clear hK K
        refine wpAnyK_one (i := 18) (by kernel_rfl) rfl (fun K hK => ?_)
        go_simp
        refine hK.out _ _ (fun _ h => absurd h (by decide)) ?_
        clear hK K
        refine wpAnyK_done (by kernel_rfl) ?_ _
        go_wp2_with fail
        exact bodyPost_end (results_none rfl _ _ _) rfl ⟨⟨_, rfl⟩, HF.out⟩
    · subst h
      go_upto_region 15 with fail
      have hS0 : (fun w' => RgB w' g l ∧ w'.heap[w.heap.size]? = some (.cells #[.int .i64 5, .int .i64 (a : Int), .int .i64 (b : Int), .int .i64 (k : Int), .int .i64 xn] 57)) W.drew := ⟨hR.out, HX.out⟩
      have y0 : ∀ w', (fun w' => RgB w' g l ∧ w'.heap[w.heap.size]? = some (.cells #[.int .i64 5, .int .i64 (a : Int), .int .i64 (b : Int), .int .i64 (k : Int), .int .i64 xn] 57)) w' → w'.cell? ⟨w.heap.size, 0, none⟩ = some (.int .i64 5) := fun w' h => cell_of_obj h.2 rfl
      have y1 : ∀ w', (fun w' => RgB w' g l ∧ w'.heap[w.heap.size]? = some (.cells #[.int .i64 5, .int .i64 (a : Int), .int .i64 (b : Int), .int .i64 (k : Int), .int .i64 xn] 57)) w' → w'.cell? ⟨w.heap.size, 1, none⟩ = some (.int .i64 (a : Int)) := fun w' h => cell_of_obj h.2 rfl
      have y2 : ∀ w', (fun w' => RgB w' g l ∧ w'.heap[w.heap.size]? = some (.cells #[.int .i64 5, .int .i64 (a : Int), .int .i64 (b : Int), .int .i64 (k : Int), .int .i64 xn] 57)) w' → w'.cell? ⟨w.heap.size, 2, none⟩ = some (.int .i64 (b : Int)) := fun w' h => cell_of_obj h.2 rfl
      have y3 : ∀ w', (fun w' => RgB w' g l ∧ w'.heap[w.heap.size]? = some (.cells #[.int .i64 5, .int .i64 (a : Int), .int .i64 (b : Int), .int .i64 (k : Int), .int .i64 xn] 57)) w' → w'.cell? ⟨w.heap.size, 3, none⟩ = some (.int .i64 (k : Int)) := fun w' h => cell_of_obj h.2 rfl
      have y4 : ∀ w', (fun w' => RgB w' g l ∧ w'.heap[w.heap.size]? = some (.cells #[.int .i64 5, .int .i64 (a : Int), .int .i64 (b : Int), .int .i64 (k : Int), .int .i64 xn] 57)) w' → w'.cell? ⟨w.heap.size, 4, none⟩ = some (.int .i64 xn) := fun w' h => cell_of_obj h.2 rfl
      have za0 : ∀ w', (fun w' => RgB w' g l ∧ w'.heap[w.heap.size]? = some (.cells #[.int .i64 5, .int .i64 (a : Int), .int .i64 (b : Int), .int .i64 (k : Int), .int .i64 xn] 57)) w' → w'.cell? ⟨g, a * 2, none⟩ = some (.int .i64 (gS l a).1) := fun w' h => h.1.c0 ha
      have za1 : ∀ w', (fun w' => RgB w' g l ∧ w'.heap[w.heap.size]? = some (.cells #[.int .i64 5, .int .i64 (a : Int), .int .i64 (b : Int), .int .i64 (k : Int), .int .i64 xn] 57)) w' → w'.cell? ⟨g, a * 2 + 1, none⟩ = some (.int .i64 (gS l a).2) := fun w' h => h.1.c1 ha
      have zb0 : ∀ w', (fun w' => RgB w' g l ∧ w'.heap[w.heap.size]? = some (.cells #[.int .i64 5, .int .i64 (a : Int), .int .i64 (b : Int), .int .i64 (k : Int), .int .i64 xn] 57)) w' → w'.cell? ⟨g, b * 2, none⟩ = some (.int .i64 (gS l b).1) := fun w' h => h.1.c0 hb
      have zb1 : ∀ w', (fun w' => RgB w' g l ∧ w'.heap[w.heap.size]? = some (.cells #[.int .i64 5, .int .i64 (a : Int), .int .i64 (b : Int), .int .i64 (k : Int), .int .i64 xn] 57)) w' → w'.cell? ⟨g, b * 2 + 1, none⟩ = some (.int .i64 (gS l b).2) := fun w' h => h.1.c1 hb
      have zk0 : ∀ w', (fun w' => RgB w' g l ∧ w'.heap[w.heap.size]? = some (.cells #[.int .i64 5, .int .i64 (a : Int), .int .i64 (b : Int), .int .i64 (k : Int), .int .i64 xn] 57)) w' → w'.cell? ⟨g, k * 2, none⟩ = some (.int .i64 (gS l k).1) := fun w' h => h.1.c0 hc
      have zk1 : ∀ w', (fun w' => RgB w' g l ∧ w'.heap[w.heap.size]? = some (.cells #[.int .i64 5, .int .i64 (a : Int), .int .i64 (b : Int), .int .i64 (k : Int), .int .i64 xn] 57)) w' → w'.cell? ⟨g, k * 2 + 1, none⟩ = some (.int .i64 (gS l k).2) := fun w' h => h.1.c1 hc
      clear c0 c1 cf d0 d1 e0 e1 x0 x1 x2 x3 x4
      refine wp_region_K (fun w' => RgB w' g l ∧ w'.heap[w.heap.size]? = some (.cells #[.int .i64 5, .int .i64 (a : Int), .int .i64 (b : Int), .int .i64 (k : Int), .int .i64 xn] 57)) 20 (by kernel_rfl) ?_
      simp only [List.size_toArray, List.length_cons, List.length_nil, Nat.reduceAdd]
      refine wpAnyK_takeL (i := 0) (v := ?tvq5_0) rfl (by decide) (by kernel_rfl) (by kernel_rfl) (by kernel_rfl) (by kernel_rfl) (by kernel_rfl) (fun _ _ _ h => h) (by rfl) ?tyq5_0 hS0 ?trq5_0
      case tyq5_0 => (intro w' hSw; go_simp; try with_reducible rfl)
      simp only [Act.put, List.setIfInBounds_toArray, List.set_cons_zero, List.set_cons_succ]
      refine wpAnyK_takeL (i := 1) (v := ?tvq5_1) rfl (by decide) (by kernel_rfl) (by kernel_rfl) (by kernel_rfl) (by kernel_rfl) (by kernel_rfl) (fun _ _ _ h => h) (by rfl) ?tyq5_1 hS0 ?trq5_1
      case tyq5_1 => (intro w' hSw; go_simp; try with_reducible rfl)
      simp only [Act.put, List.setIfInBounds_toArray, List.set_cons_zero, List.set_cons_succ]
      refine wpAnyK_takeL (i := 2) (v := ?tvq5_2) rfl (by decide) (by kernel_rfl) (by kernel_rfl) (by kernel_rfl) (by kernel_rfl) (by kernel_rfl) (fun _ _ _ h => h) (by rfl) ?tyq5_2 hS0 ?trq5_2
      case tyq5_2 => (intro w' hSw; go_simp; try with_reducible rfl)
      simp only [Act.put, List.setIfInBounds_toArray, List.set_cons_zero, List.set_cons_succ]
      refine wpAnyK_takeL (i := 3) (v := ?tvq5_3) rfl (by decide) (by kernel_rfl) (by kernel_rfl) (by kernel_rfl) (by kernel_rfl) (by kernel_rfl) (fun _ _ _ h => h) (by rfl) ?tyq5_3 hS0 ?trq5_3
      case tyq5_3 => (intro w' hSw; go_simp; try with_reducible rfl)
      simp only [Act.put, List.setIfInBounds_toArray, List.set_cons_zero, List.set_cons_succ]
      refine wpAnyK_takeL (i := 4) (v := ?tvq5_4) rfl (by decide) (by kernel_rfl) (by kernel_rfl) (by kernel_rfl) (by kernel_rfl) (by kernel_rfl) (fun _ _ _ h => h) (by rfl) ?tyq5_4 hS0 ?trq5_4
      case tyq5_4 => (intro w' hSw; go_simp; try with_reducible rfl)
      simp only [Act.put, List.setIfInBounds_toArray, List.set_cons_zero, List.set_cons_succ]
      refine wpAnyK_takeL (i := 5) (v := ?tvq5_5) rfl (by decide) (by kernel_rfl) (by kernel_rfl) (by kernel_rfl) (by kernel_rfl) (by kernel_rfl) (fun _ _ _ h => h) (by rfl) ?tyq5_5 hS0 ?trq5_5
      case tyq5_5 => (intro w' hSw; go_simp; try with_reducible rfl)
      simp only [Act.put, List.setIfInBounds_toArray, List.set_cons_zero, List.set_cons_succ]
      refine wpAnyK_takeL (i := 6) (v := ?tvq5_6) rfl (by decide) (by kernel_rfl) (by kernel_rfl) (by kernel_rfl) (by kernel_rfl) (by kernel_rfl) (fun _ _ _ h => h) (by rfl) ?tyq5_6 hS0 ?trq5_6
      case tyq5_6 => (intro w' hSw; go_simp; try with_reducible rfl)
      simp only [Act.put, List.setIfInBounds_toArray, List.set_cons_zero, List.set_cons_succ]
      refine wpAnyK_takeL (i := 7) (v := ?tvq5_7) rfl (by decide) (by kernel_rfl) (by kernel_rfl) (by kernel_rfl) (by kernel_rfl) (by kernel_rfl) (fun _ _ _ h => h) (by rfl) ?tyq5_7 hS0 ?trq5_7
      case tyq5_7 => (intro w' hSw; go_simp; try with_reducible rfl)
      simp only [Act.put, List.setIfInBounds_toArray, List.set_cons_zero, List.set_cons_succ]
      refine wpAnyK_takeL (i := 8) (v := ?tvq5_8) rfl (by decide) (by kernel_rfl) (by kernel_rfl) (by kernel_rfl) (by kernel_rfl) (by kernel_rfl) (fun _ _ _ h => h) (by rfl) ?tyq5_8 hS0 ?trq5_8
      case tyq5_8 => (intro w' hSw; go_simp; try with_reducible rfl)
      simp only [Act.put, List.setIfInBounds_toArray, List.set_cons_zero, List.set_cons_succ]
      refine wpAnyK_takeL (i := 9) (v := ?tvq5_9) rfl (by decide) (by kernel_rfl) (by kernel_rfl) (by kernel_rfl) (by kernel_rfl) (by kernel_rfl) (fun _ _ _ h => h) (by rfl) ?tyq5_9 hS0 ?trq5_9
      case tyq5_9 => (intro w' hSw; go_simp; try with_reducible rfl)
      simp only [Act.put, List.setIfInBounds_toArray, List.set_cons_zero, List.set_cons_succ]
      refine wpAnyK_takeL (i := 10) (v := ?tvq5_10) rfl (by decide) (by kernel_rfl) (by kernel_rfl) (by kernel_rfl) (by kernel_rfl) (by kernel_rfl) (fun _ _ _ h => h) (by rfl) ?tyq5_10 hS0 ?trq5_10
      case tyq5_10 => (intro w' hSw; go_simp; try with_reducible rfl)
      simp only [Act.put, List.setIfInBounds_toArray, List.set_cons_zero, List.set_cons_succ]
      refine wpAnyK_takeL (i := 11) (v := ?tvq5_11) rfl (by decide) (by kernel_rfl) (by kernel_rfl) (by kernel_rfl) (by kernel_rfl) (by kernel_rfl) (fun _ _ _ h => h) (by rfl) ?tyq5_11 hS0 ?trq5_11
      case tyq5_11 => (intro w' hSw; go_simp; try with_reducible rfl)
      simp only [Act.put, List.setIfInBounds_toArray, List.set_cons_zero, List.set_cons_succ]
      refine wpAnyK_takeL (i := 12) (v := ?tvq5_12) rfl (by decide) (by kernel_rfl) (by kernel_rfl) (by kernel_rfl) (by kernel_rfl) (by kernel_rfl) (fun _ _ _ h => h) (by rfl) ?tyq5_12 hS0 ?trq5_12
      case tyq5_12 => (intro w' hSw; go_simp; try with_reducible rfl)
      simp only [Act.put, List.setIfInBounds_toArray, List.set_cons_zero, List.set_cons_succ]
      refine wpAnyK_takeL (i := 13) (v := ?tvq5_13) rfl (by decide) (by kernel_rfl) (by kernel_rfl) (by kernel_rfl) (by kernel_rfl) (by kernel_rfl) (fun _ _ _ h => h) (by rfl) ?tyq5_13 hS0 ?trq5_13
      case tyq5_13 => (intro w' hSw; go_simp; try with_reducible rfl)
      simp only [Act.put, List.setIfInBounds_toArray, List.set_cons_zero, List.set_cons_succ]
      refine wpAnyK_takeL (i := 14) (v := ?tvq5_14) rfl (by decide) (by kernel_rfl) (by kernel_rfl) (by kernel_rfl) (by kernel_rfl) (by kernel_rfl) (fun _ _ _ h => h) (by rfl) ?tyq5_14 hS0 ?trq5_14
      case tyq5_14 => (intro w' hSw; go_simp; try with_reducible rfl)
      simp only [Act.put, List.setIfInBounds_toArray, List.set_cons_zero, List.set_cons_succ]
      refine wpAnyK_one (i := 15) (by kernel_rfl) rfl (fun K hK => ?_)
      go_simp
      go_at_call 82
      refine (HD.out _).mono ?_
      rintro e w5 ⟨rfl, hb5⟩
      have B5 := Below.on (Below.drew (Below.refl _ W)) hb5
      have hS5 : (fun w' => RgB w' g l ∧ w'.heap[w.heap.size]? = some (.cells #[.int .i64 5, .int .i64 (a : Int), .int .i64 (b : Int), .int .i64 (k : Int), .int .i64 xn] 57)) w5 := ⟨hR.out.stay B5, (B5.block _ (Array.getElem?_eq_some_iff.1 HX.out).1).trans HX.out⟩
      refine hK.out _ _ (fun _ _ => hS5) ?_
      clear hK K
      refine wpAnyK_takeL (i := 16) (v := ?tvq5_16) rfl (by decide) (by kernel_rfl) (by kernel_rfl) (by kernel_rfl) (by kernel_rfl) (by kernel_rfl) (fun _ _ _ h => h) (by rfl) ?tyq5_16 hS5 ?trq5_16
      case tyq5_16 => (intro w' hSw; go_simp; try with_reducible rfl)
      simp only [Act.put, List.setIfInBounds_toArray, List.set_cons_zero, List.set_cons_succ]
      refine wpAnyK_takeL (i := 17) (v := ?tvq5_17) rfl (by decide) (by kernel_rfl) (by kernel_rfl) (by kernel_rfl) (by kernel_rfl) (by kernel_rfl) (fun _ _ _ h => h) (by rfl) ?tyq5_17 hS5 ?trq5_17
      case tyq5_17 => (intro w' hSw; go_simp; try with_reducible rfl)
      simp only [Act.put, List.setIfInBounds_toArray, List.set_cons_zero, List.set_cons_succ]
      refine wpAnyK_takeL (i := 19) (v := ?tvq5_19) rfl (by decide) (by kernel_rfl) (by kernel_rfl) (by kernel_rfl) (by kernel_rfl) (by kernel_rfl) (fun _ _ _ h => h) (by rfl) ?tyq5_19 hS5 ?trq5_19
      case tyq5_19 => (intro w' hSw; go_simp; try with_reducible rfl)
      simp only [Act.put, List.setIfInBounds_toArray, List.set_cons_zero, List.set_cons_succ]
      have c0 := hS5.1.c0 ha
      have c1 := hS5.1.c1 ha
      have cf := fun j => hS5.1.fz j
      have HF := Hid.mk' (HEND.out w5 _ hL.symm hS5.1 (HOW.out.trans (OnlyB.of_below B5)))
      refine wpAnyK_two (i := 18) (j := 20) (by kernel_rfl) rfl rfl (fun K hK => ?_) (fun K hK => ?_)
      · go_simp
        refine hK.out _ _ (fun _ _ => hS5) ?_
        clear hK K
        refine wpAnyK_one (i := 20) (by kernel_rfl) rfl (fun K hK => ?_)
        go_simp
        refine hK.out _ _ (fun h => absurd rfl h) ?_
        clear hK K
        refine wpAnyK_done (by kernel_rfl) ?_ _
        go_wp2_with fail
        exact bodyPost_end (results_none rfl _ _ _) rfl ⟨⟨_, rfl⟩, HF.out⟩
      · go_simp
        refine hK.out _ _ (fun h => absurd rfl h) ?_
        clear hK K
        refine wpAnyK_one (i := 18) (by kernel_rfl) rfl (fun K hK => ?_)
        go_simp
        refine hK.out _ _ (fun _ h => absurd h (by decide)) ?_
        clear hK K
        refine wpAnyK_done (by kernel_rfl) ?_ _
        go_wp2_with fail
        exact bodyPost_end (results_none rfl _ _ _) rfl ⟨⟨_, rfl⟩, HF.out⟩
    · subst h
      go_upto_region 15 with fail
      have hS0 : (fun w' => RgB w' g l ∧ w'.heap[w.heap.size]? = some (.cells #[.int .i64 8, .int .i64 (a : Int), .int .i64 (b : Int), .int .i64 (k : Int), .int .i64 xn] 57)) W.drew := ⟨hR.out, HX.out⟩
      have y0 : ∀ w', (fun w' => RgB w' g l ∧ w'.heap[w.heap.size]? = some (.cells #[.int .i64 8, .int .i64 (a : Int), .int .i64 (b : Int), .int .i64 (k : Int), .int .i64 xn] 57)) w' → w'.cell? ⟨w.heap.size, 0, none⟩ = some (.int .i64 8) := fun w' h => cell_of_obj h.2 rfl
      have y1 : ∀ w', (fun w' => RgB w' g l ∧ w'.heap[w.heap.size]? = some (.cells #[.int .i64 8, .int .i64 (a : Int), .int .i64 (b : Int), .int .i64 (k : Int), .int .i64 xn] 57)) w' → w'.cell? ⟨w.heap.size, 1, none⟩ = some (.int .i64 (a : Int)) := fun w' h => cell_of_obj h.2 rfl
      have y2 : ∀ w', (fun w' => RgB w' g l ∧ w'.heap[w.heap.size]? = some (.cells #[.int .i64 8, .int .i64 (a : Int), .int .i64 (b : Int), .int .i64 (k : Int), .int .i64 xn] 57)) w' → w'.cell? ⟨w.heap.size, 2, none⟩ = some (.int .i64 (b : Int)) := fun w' h => cell_of_obj h.2 rfl
      have y3 : ∀ w', (fun w' => RgB w' g l ∧ w'.heap[w.heap.size]? = some (.cells #[.int .i64 8, .int .i64 (a : Int), .int .i64 (b : Int), .int .i64 (k : Int), .int .i64 xn] 57)) w' → w'.cell? ⟨w.heap.size, 3, none⟩ = some (.int .i64 (k : Int)) := fun w' h => cell_of_obj h.2 rfl
      have y4 : ∀ w', (fun w' => RgB w' g l ∧ w'.heap[w.heap.size]? = some (.cells #[.int .i64 8, .int .i64 (a : Int), .int .i64 (b : Int), .int .i64 (k : Int), .int .i64 xn] 57)) w' → w'.cell? ⟨w.heap.size, 4, none⟩ = some (.int .i64 xn) := fun w' h => cell_of_obj h.2 rfl
      have za0 : ∀ w', (fun w' => RgB w' g l ∧ w'.heap[w.heap.size]? = some (.cells #[.int .i64 8, .int .i64 (a : Int), .int .i64 (b : Int), .int .i64 (k : Int), .int .i64 xn] 57)) w' → w'.cell? ⟨g, a * 2, none⟩ = some (.int .i64 (gS l a).1) := fun w' h => h.1.c0 ha
      have za1 : ∀ w', (fun w' => RgB w' g l ∧ w'.heap[w.heap.size]? = some (.cells #[.int .i64 8, .int .i64 (a : Int), .int .i64 (b : Int), .int .i64 (k : Int), .int .i64 xn] 57)) w' → w'.cell? ⟨g, a * 2 + 1, none⟩ = some (.int .i64 (gS l a).2) := fun w' h => h.1.c1 ha
      have zb0 : ∀ w', (fun w' => RgB w' g l ∧ w'.heap[w.heap.size]? = some (.cells #[.int .i64 8, .int .i64 (a : Int), .int .i64 (b : Int), .int .i64 (k : Int), .int .i64 xn] 57)) w' → w'.cell? ⟨g, b * 2, none⟩ = some (.int .i64 (gS l b).1) := fun w' h => h.1.c0 hb
      have zb1 : ∀ w', (fun w' => RgB w' g l ∧ w'.heap[w.heap.size]? = some (.cells #[.int .i64 8, .int .i64 (a : Int), .int .i64 (b : Int), .int .i64 (k : Int), .int .i64 xn] 57)) w' → w'.cell? ⟨g, b * 2 + 1, none⟩ = some (.int .i64 (gS l b).2) := fun w' h => h.1.c1 hb
      have zk0 : ∀ w', (fun w' => RgB w' g l ∧ w'.heap[w.heap.size]? = some (.cells #[.int .i64 8, .int .i64 (a : Int), .int .i64 (b : Int), .int .i64 (k : Int), .int .i64 xn] 57)) w' → w'.cell? ⟨g, k * 2, none⟩ = some (.int .i64 (gS l k).1) := fun w' h => h.1.c0 hc
      have zk1 : ∀ w', (fun w' => RgB w' g l ∧ w'.heap[w.heap.size]? = some (.cells #[.int .i64 8, .int .i64 (a : Int), .int .i64 (b : Int), .int .i64 (k : Int), .int .i64 xn] 57)) w' → w'.cell? ⟨g, k * 2 + 1, none⟩ = some (.int .i64 (gS l k).2) := fun w' h => h.1.c1 hc
      clear c0 c1 cf d0 d1 e0 e1 x0 x1 x2 x3 x4
      refine wp_region_K (fun w' => RgB w' g l ∧ w'.heap[w.heap.size]? = some (.cells #[.int .i64 8, .int .i64 (a : Int), .int .i64 (b : Int), .int .i64 (k : Int), .int .i64 xn] 57)) 20 (by kernel_rfl) ?_
      simp only [List.size_toArray, List.length_cons, List.length_nil, Nat.reduceAdd]
      refine wpAnyK_takeL (i := 0) (v := ?tvq8_0) rfl (by decide) (by kernel_rfl) (by kernel_rfl) (by kernel_rfl) (by kernel_rfl) (by kernel_rfl) (fun _ _ _ h => h) (by rfl) ?tyq8_0 hS0 ?trq8_0
      case tyq8_0 => (intro w' hSw; go_simp; try with_reducible rfl)
      simp only [Act.put, List.setIfInBounds_toArray, List.set_cons_zero, List.set_cons_succ]
      refine wpAnyK_takeL (i := 1) (v := ?tvq8_1) rfl (by decide) (by kernel_rfl) (by kernel_rfl) (by kernel_rfl) (by kernel_rfl) (by kernel_rfl) (fun _ _ _ h => h) (by rfl) ?tyq8_1 hS0 ?trq8_1
      case tyq8_1 => (intro w' hSw; go_simp; try with_reducible rfl)
      simp only [Act.put, List.setIfInBounds_toArray, List.set_cons_zero, List.set_cons_succ]
      refine wpAnyK_takeL (i := 2) (v := ?tvq8_2) rfl (by decide) (by kernel_rfl) (by kernel_rfl) (by kernel_rfl) (by kernel_rfl) (by kernel_rfl) (fun _ _ _ h => h) (by rfl) ?tyq8_2 hS0 ?trq8_2
      case tyq8_2 => (intro w' hSw; go_simp; try with_reducible rfl)
      simp only [Act.put, List.setIfInBounds_toArray, List.set_cons_zero, List.set_cons_succ]
      refine wpAnyK_takeL (i := 3) (v := ?tvq8_3) rfl (by decide) (by kernel_rfl) (by kernel_rfl) (by kernel_rfl) (by kernel_rfl) (by kernel_rfl) (fun _ _ _ h => h) (by rfl) ?tyq8_3 hS0 ?trq8_3
      case tyq8_3 => (intro w' hSw; go_simp; try with_reducible rfl)
      simp only [Act.put, List.setIfInBounds_toArray, List.set_cons_zero, List.set_cons_succ]
      refine wpAnyK_takeL (i := 4) (v := ?tvq8_4) rfl (by decide) (by kernel_rfl) (by kernel_rfl) (by kernel_rfl) (by kernel_rfl) (by kernel_rfl) (fun _ _ _ h => h) (by rfl) ?tyq8_4 hS0 ?trq8_4
      case tyq8_4 => (intro w' hSw; go_simp; try with_reducible rfl)
      simp only [Act.put, List.setIfInBounds_toArray, List.set_cons_zero, List.set_cons_succ]
      refine wpAnyK_takeL (i := 5) (v := ?tvq8_5) rfl (by decide) (by kernel_rfl) (by kernel_rfl) (by kernel_rfl) (by kernel_rfl) (by kernel_rfl) (fun _ _ _ h => h) (by rfl) ?tyq8_5 hS0 ?trq8_5
      case tyq8_5 => (intro w' hSw; go_simp; try with_reducible rfl)
      simp only [Act.put, List.setIfInBounds_toArray, List.set_cons_zero, List.set_cons_succ]
      refine wpAnyK_takeL (i := 6) (v := ?tvq8_6) rfl (by decide) (by kernel_rfl) (by kernel_rfl) (by kernel_rfl) (by kernel_rfl) (by kernel_rfl) (fun _ _ _ h => h) (by rfl) ?tyq8_6 hS0 ?trq8_6
      case tyq8_6 => (intro w' hSw; go_simp; try with_reducible rfl)
      simp only [Act.put, List.setIfInBounds_toArray, List.set_cons_zero, List.set_cons_succ]
      refine wpAnyK_takeL (i := 7) (v := ?tvq8_7) rfl (by decide) (by kernel_rfl) (by kernel_rfl) (by kernel_rfl) (by kernel_rfl) (by kernel_rfl) (fun _ _ _ h => h) (by rfl) ?tyq8_7 hS0 ?trq8_7
      case tyq8_7 => (intro w' hSw; go_simp; try with_reducible rfl)
      simp only [Act.put, List.setIfInBounds_toArray, List.set_cons_zero, List.set_cons_succ]
      refine wpAnyK_takeL (i := 8) (v := ?tvq8_8) rfl (by decide) (by kernel_rfl) (by kernel_rfl) (by kernel_rfl) (by kernel_rfl) (by kernel_rfl) (fun _ _ _ h => h) (by rfl) ?tyq8_8 hS0 ?trq8_8
      case tyq8_8 => (intro w' hSw; go_simp; try with_reducible rfl)
      simp only [Act.put, List.setIfInBounds_toArray, List.set_cons_zero, List.set_cons_succ]
      refine wpAnyK_takeL (i := 9) (v := ?tvq8_9) rfl (by decide) (by kernel_rfl) (by kernel_rfl) (by kernel_rfl) (by kernel_rfl) (by kernel_rfl) (fun _ _ _ h => h) (by rfl) ?tyq8_9 hS0 ?trq8_9
      case tyq8_9 => (intro w' hSw; go_simp; try with_reducible rfl)
      simp only [Act.put, List.setIfInBounds_toArray, List.set_cons_zero, List.set_cons_succ]
      refine wpAnyK_takeL (i := 10) (v := ?tvq8_10) rfl (by decide) (by kernel_rfl) (by kernel_rfl) (by kernel_rfl) (by kernel_rfl) (by kernel_rfl) (fun _ _ _ h => h) (by rfl) ?tyq8_10 hS0 ?trq8_10
      case tyq8_10 => (intro w' hSw; go_simp; try with_reducible rfl)
      simp only [Act.put, List.setIfInBounds_toArray, List.set_cons_zero, List.set_cons_succ]
      refine wpAnyK_takeL (i := 11) (v := ?tvq8_11) rfl (by decide) (by kernel_rfl) (by kernel_rfl) (by kernel_rfl) (by kernel_rfl) (by kernel_rfl) (fun _ _ _ h => h) (by rfl) ?tyq8_11 hS0 ?trq8_11
      case tyq8_11 => (intro w' hSw; go_simp; try with_reducible rfl)
      simp only [Act.put, List.setIfInBounds_toArray, List.set_cons_zero, List.set_cons_succ]
      refine wpAnyK_takeL (i := 12) (v := ?tvq8_12) rfl (by decide) (by kernel_rfl) (by kernel_rfl) (by kernel_rfl) (by kernel_rfl) (by kernel_rfl) (fun _ _ _ h => h) (by rfl) ?tyq8_12 hS0 ?trq8_12
      case tyq8_12 => (intro w' hSw; go_simp; try with_reducible rfl)
      simp only [Act.put, List.setIfInBounds_toArray, List.set_cons_zero, List.set_cons_succ]
      refine wpAnyK_takeL (i := 13) (v := ?tvq8_13) rfl (by decide) (by kernel_rfl) (by kernel_rfl) (by kernel_rfl) (by kernel_rfl) (by kernel_rfl) (fun _ _ _ h => h) (by rfl) ?tyq8_13 hS0 ?trq8_13
      case tyq8_13 => (intro w' hSw; go_simp; try with_reducible rfl)
      simp only [Act.put, List.setIfInBounds_toArray, List.set_cons_zero, List.set_cons_succ]
      refine wpAnyK_takeL (i := 14) (v := ?tvq8_14) rfl (by decide) (by kernel_rfl) (by kernel_rfl) (by kernel_rfl) (by kernel_rfl) (by kernel_rfl) (fun _ _ _ h => h) (by rfl) ?tyq8_14 hS0 ?trq8_14
      case tyq8_14 => (intro w' hSw; go_simp; try with_reducible rfl)
      simp only [Act.put, List.setIfInBounds_toArray, List.set_cons_zero, List.set_cons_succ]
      refine wpAnyK_one (i := 15) (by kernel_rfl) rfl (fun K hK => ?_)
      go_simp
      go_at_call 82
      refine (HD.out _).mono ?_
      rintro e w5 ⟨rfl, hb5⟩
      have B5 := Below.on (Below.drew (Below.refl _ W)) hb5
      have hS5 : (fun w' => RgB w' g l ∧ w'.heap[w.heap.size]? = some (.cells #[.int .i64 8, .int .i64 (a : Int), .int .i64 (b : Int), .int .i64 (k : Int), .int .i64 xn] 57)) w5 := ⟨hR.out.stay B5, (B5.block _ (Array.getElem?_eq_some_iff.1 HX.out).1).trans HX.out⟩
      refine hK.out _ _ (fun _ _ => hS5) ?_
      clear hK K
      refine wpAnyK_takeL (i := 16) (v := ?tvq8_16) rfl (by decide) (by kernel_rfl) (by kernel_rfl) (by kernel_rfl) (by kernel_rfl) (by kernel_rfl) (fun _ _ _ h => h) (by rfl) ?tyq8_16 hS5 ?trq8_16
      case tyq8_16 => (intro w' hSw; go_simp; try with_reducible rfl)
      simp only [Act.put, List.setIfInBounds_toArray, List.set_cons_zero, List.set_cons_succ]
      refine wpAnyK_takeL (i := 17) (v := ?tvq8_17) rfl (by decide) (by kernel_rfl) (by kernel_rfl) (by kernel_rfl) (by kernel_rfl) (by kernel_rfl) (fun _ _ _ h => h) (by rfl) ?tyq8_17 hS5 ?trq8_17
      case tyq8_17 => (intro w' hSw; go_simp; try with_reducible rfl)
      simp only [Act.put, List.setIfInBounds_toArray, List.set_cons_zero, List.set_cons_succ]
      refine wpAnyK_takeL (i := 19) (v := ?tvq8_19) rfl (by decide) (by kernel_rfl) (by kernel_rfl) (by kernel_rfl) (by kernel_rfl) (by kernel_rfl) (fun _ _ _ h => h) (by rfl) ?tyq8_19 hS5 ?trq8_19
      case tyq8_19 => (intro w' hSw; go_simp; try with_reducible rfl)
      simp only [Act.put, List.setIfInBounds_toArray, List.set_cons_zero, List.set_cons_succ]
      have c0 := hS5.1.c0 ha
      have c1 := hS5.1.c1 ha
      have cf := fun j => hS5.1.fz j
      have HF := Hid.mk' (HEND.out w5 _ hL.symm hS5.1 (HOW.out.trans (OnlyB.of_below B5)))
      refine wpAnyK_two (i := 18) (j := 20) (by kernel_rfl) rfl rfl (fun K hK => ?_) (fun K hK => ?_)
      · go_simp
        refine hK.out _ _ (fun _ _ => hS5) ?_
        clear hK K
        refine wpAnyK_one (i := 20) (by kernel_rfl) rfl (fun K hK => ?_)
        go_simp
        refine hK.out _ _ (fun h => absurd rfl h) ?_
        clear hK K
        refine wpAnyK_done (by kernel_rfl) ?_ _
        go_wp2_with fail
        exact bodyPost_end (results_none rfl _ _ _) rfl ⟨⟨_, rfl⟩, HF.out⟩
      · go_simp
        refine hK.out _ _ (fun h => absurd rfl h) ?_
        clear hK K
        refine wpAnyK_one (i := 18) (by kernel_rfl) rfl (fun K hK => ?_)
        go_simp
        refine hK.out _ _ (fun _ h => absurd h (by decide)) ?_
        clear hK K
        refine wpAnyK_done (by kernel_rfl) ?_ _
        go_wp2_with fail
        exact bodyPost_end (results_none rfl _ _ _) rfl ⟨⟨_, rfl⟩, HF.out⟩
    · subst h
      go_upto_region 15 with fail
      have hS0 : (fun w' => RgB w' g l ∧ w'.heap[w.heap.size]? = some (.cells #[.int .i64 9, .int .i64 (a : Int), .int .i64 (b : Int), .int .i64 (k : Int), .int .i64 xn] 57)) W.drew := ⟨hR.out, HX.out⟩
      have y0 : ∀ w', (fun w' => RgB w' g l ∧ w'.heap[w.heap.size]? = some (.cells #[.int .i64 9, .int .i64 (a : Int), .int .i64 (b : Int), .int .i64 (k : Int), .int .i64 xn] 57)) w' → w'.cell? ⟨w.heap.size, 0, none⟩ = some (.int .i64 9) := fun w' h => cell_of_obj h.2 rfl
      have y1 : ∀ w', (fun w' => RgB w' g l ∧ w'.heap[w.heap.size]? = some (.cells #[.int .i64 9, .int .i64 (a : Int), .int .i64 (b : Int), .int .i64 (k : Int), .int .i64 xn] 57)) w' → w'.cell? ⟨w.heap.size, 1, none⟩ = some (.int .i64 (a : Int)) := fun w' h => cell_of_obj h.2 rfl
      have y2 : ∀ w', (fun w' => RgB w' g l ∧ w'.heap[w.heap.size]? = some (.cells #[.int .i64 9, .int .i64 (a : Int), .int .i64 (b : Int), .int .i64 (k : Int), .int .i64 xn] 57)) w' → w'.cell? ⟨w.heap.size, 2, none⟩ = some (.int .i64 (b : Int)) := fun w' h => cell_of_obj h.2 rfl
      have y3 : ∀ w', (fun w' => RgB w' g l ∧ w'.heap[w.heap.size]? = some (.cells #[.int .i64 9, .int .i64 (a : Int), .int .i64 (b : Int), .int .i64 (k : Int), .int .i64 xn] 57)) w' → w'.cell? ⟨w.heap.size, 3, none⟩ = some (.int .i64 (k : Int)) := fun w' h => cell_of_obj h.2 rfl
      have y4 : ∀ w', (fun w' => RgB w' g l ∧ w'.heap[w.heap.size]? = some (.cells #[.int .i64 9, .int .i64 (a : Int), .int .i64 (b : Int), .int .i64 (k : Int), .int .i64 xn] 57)) w' → w'.cell? ⟨w.heap.size, 4, none⟩ = some (.int .i64 xn) := fun w' h => cell_of_obj h.2 rfl
      have za0 : ∀ w', (fun w' => RgB w' g l ∧ w'.heap[w.heap.size]? = some (.cells #[.int .i64 9, .int .i64 (a : Int), .int .i64 (b : Int), .int .i64 (k : Int), .int .i64 xn] 57)) w' → w'.cell? ⟨g, a * 2, none⟩ = some (.int .i64 (gS l a).1) := fun w' h => h.1.c0 ha
      have za1 : ∀ w', (fun w' => RgB w' g l ∧ w'.heap[w.heap.size]? = some (.cells #[.int .i64 9, .int .i64 (a : Int), .int .i64 (b : Int), .int .i64 (k : Int), .int .i64 xn] 57)) w' → w'.cell? ⟨g, a * 2 + 1, none⟩ = some (.int .i64 (gS l a).2) := fun w' h => h.1.c1 ha
      have zb0 : ∀ w', (fun w' => RgB w' g l ∧ w'.heap[w.heap.size]? = some (.cells #[.int .i64 9, .int .i64 (a : Int), .int .i64 (b : Int), .int .i64 (k : Int), .int .i64 xn] 57)) w' → w'.cell? ⟨g, b * 2, none⟩ = some (.int .i64 (gS l b).1) := fun w' h => h.1.c0 hb
      have zb1 : ∀ w', (fun w' => RgB w' g l ∧ w'.heap[w.heap.size]? = some (.cells #[.int .i64 9, .int .i64 (a : Int), .int .i64 (b : Int), .int .i64 (k : Int), .int .i64 xn] 57)) w' → w'.cell? ⟨g, b * 2 + 1, none⟩ = some (.int .i64 (gS l b).2) := fun w' h => h.1.c1 hb
      have zk0 : ∀ w', (fun w' => RgB w' g l ∧ w'.heap[w.heap.size]? = some (.cells #[.int .i64 9, .int .i64 (a : Int), .int .i64 (b : Int), .int .i64 (k : Int), .int .i64 xn] 57)) w' → w'.cell? ⟨g, k * 2, none⟩ = some (.int .i64 (gS l k).1) := fun w' h => h.1.c0 hc
      have zk1 : ∀ w', (fun w' => RgB w' g l ∧ w'.heap[w.heap.size]? = some (.cells #[.int .i64 9, .int .i64 (a : Int), .int .i64 (b : Int), .int .i64 (k : Int), .int .i64 xn] 57)) w' → w'.cell? ⟨g, k * 2 + 1, none⟩ = some (.int .i64 (gS l k).2) := fun w' h => h.1.c1 hc
      clear c0 c1 cf d0 d1 e0 e1 x0 x1 x2 x3 x4
      refine wp_region_K (fun w' => RgB w' g l ∧ w'.heap[w.heap.size]? = some (.cells #[.int .i64 9, .int .i64 (a : Int), .int .i64 (b : Int), .int .i64 (k : Int), .int .i64 xn] 57)) 20 (by kernel_rfl) ?_
      simp only [List.size_toArray, List.length_cons, List.length_nil, Nat.reduceAdd]
      refine wpAnyK_takeL (i := 0) (v := ?tvq9_0) rfl (by decide) (by kernel_rfl) (by kernel_rfl) (by kernel_rfl) (by kernel_rfl) (by kernel_rfl) (fun _ _ _ h => h) (by rfl) ?tyq9_0 hS0 ?trq9_0
      case tyq9_0 => (intro w' hSw; go_simp; try with_reducible rfl)
      simp only [Act.put, List.setIfInBounds_toArray, List.set_cons_zero, List.set_cons_succ]
      refine wpAnyK_takeL (i := 1) (v := ?tvq9_1) rfl (by decide) (by kernel_rfl) (by kernel_rfl) (by kernel_rfl) (by kernel_rfl) (by kernel_rfl) (fun _ _ _ h => h) (by rfl) ?tyq9_1 hS0 ?trq9_1
      case tyq9_1 => (intro w' hSw; go_simp; try with_reducible rfl)
      simp only [Act.put, List.setIfInBounds_toArray, List.set_cons_zero, List.set_cons_succ]
      refine wpAnyK_takeL (i := 2) (v := ?tvq9_2) rfl (by decide) (by kernel_rfl) (by kernel_rfl) (by kernel_rfl) (by kernel_rfl) (by kernel_rfl) (fun _ _ _ h => h) (by rfl) ?tyq9_2 hS0 ?trq9_2
      case tyq9_2 => (intro w' hSw; go_simp; try with_reducible rfl)
      simp only [Act.put, List.setIfInBounds_toArray, List.set_cons_zero, List.set_cons_succ]
      refine wpAnyK_takeL (i := 3) (v := ?tvq9_3) rfl (by decide) (by kernel_rfl) (by kernel_rfl) (by kernel_rfl) (by kernel_rfl) (by kernel_rfl) (fun _ _ _ h => h) (by rfl) ?tyq9_3 hS0 ?trq9_3
      case tyq9_3 => (intro w' hSw; go_simp; try with_reducible rfl)
      simp only [Act.put, List.setIfInBounds_toArray, List.set_cons_zero, List.set_cons_succ]
      refine wpAnyK_takeL (i := 4) (v := ?tvq9_4) rfl (by decide) (by kernel_rfl) (by kernel_rfl) (by kernel_rfl) (by kernel_rfl) (by kernel_rfl) (fun _ _ _ h => h) (by rfl) ?tyq9_4 hS0 ?trq9_4
      case tyq9_4 => (intro w' hSw; go_simp; try with_reducible rfl)
      simp only [Act.put, List.setIfInBounds_toArray, List.set_cons_zero, List.set_cons_succ]
      refine wpAnyK_takeL (i := 5) (v := ?tvq9_5) rfl (by decide) (by kernel_rfl) (by kernel_rfl) (by kernel_rfl) (by kernel_rfl) (by kernel_rfl) (fun _ _ _ h => h) (by rfl) ?tyq9_5 hS0 ?trq9_5
      case tyq9_5 => (intro w' hSw; go_simp; try with_reducible rfl)
      simp only [Act.put, List.setIfInBounds_toArray, List.set_cons_zero, List.set_cons_succ]
      refine wpAnyK_takeL (i := 6) (v := ?tvq9_6) rfl (by decide) (by kernel_rfl) (by kernel_rfl) (by kernel_rfl) (by kernel_rfl) (by kernel_rfl) (fun _ _ _ h => h) (by rfl) ?tyq9_6 hS0 ?trq9_6
      case tyq9_6 => (intro w' hSw; go_simp; try with_reducible rfl)
      simp only [Act.put, List.setIfInBounds_toArray, List.set_cons_zero, List.set_cons_succ]
      refine wpAnyK_takeL (i := 7) (v := ?tvq9_7) rfl (by decide) (by kernel_rfl) (by kernel_rfl) (by kernel_rfl) (by kernel_rfl) (by kernel_rfl) (fun _ _ _ h => h) (by rfl) ?tyq9_7 hS0 ?trq9_7
      case tyq9_7 => (intro w' hSw; go_simp; try with_reducible rfl)
      simp only [Act.put, List.setIfInBounds_toArray, List.set_cons_zero, List.set_cons_succ]
      refine wpAnyK_takeL (i := 8) (v := ?tvq9_8) rfl (by decide) (by kernel_rfl) (by kernel_rfl) (by kernel_rfl) (by kernel_rfl) (by kernel_rfl) (fun _ _ _ h => h) (by rfl) ?tyq9_8 hS0 ?trq9_8
      case tyq9_8 => (intro w' hSw; go_simp; try with_reducible rfl)
      simp only [Act.put, List.setIfInBounds_toArray, List.set_cons_zero, List.set_cons_succ]
      refine wpAnyK_takeL (i := 9) (v := ?tvq9_9) rfl (by decide) (by kernel_rfl) (by kernel_rfl) (by kernel_rfl) (by kernel_rfl) (by kernel_rfl) (fun _ _ _ h => h) (by rfl) ?tyq9_9 hS0 ?trq9_9
      case tyq9_9 => (intro w' hSw; go_simp; try with_reducible rfl)
      simp only [Act.put, List.setIfInBounds_toArray, List.set_cons_zero, List.set_cons_succ]
      refine wpAnyK_takeL (i := 10) (v := ?tvq9_10) rfl (by decide) (by kernel_rfl) (by kernel_rfl) (by kernel_rfl) (by kernel_rfl) (by kernel_rfl) (fun _ _ _ h => h) (by rfl) ?tyq9_10 hS0 ?trq9_10
      case tyq9_10 => (intro w' hSw; go_simp; try with_reducible rfl)
      simp only [Act.put, List.setIfInBounds_toArray, List.set_cons_zero, List.set_cons_succ]
      refine wpAnyK_takeL (i := 11) (v := ?tvq9_11) rfl (by decide) (by kernel_rfl) (by kernel_rfl) (by kernel_rfl) (by kernel_rfl) (by kernel_rfl) (fun _ _ _ h => h) (by rfl) ?tyq9_11 hS0 ?trq9_11
      case tyq9_11 => (intro w' hSw; go_simp; try with_reducible rfl)
      simp only [Act.put, List.setIfInBounds_toArray, List.set_cons_zero, List.set_cons_succ]
      refine wpAnyK_takeL (i := 12) (v := ?tvq9_12) rfl (by decide) (by kernel_rfl) (by kernel_rfl) (by kernel_rfl) (by kernel_rfl) (by kernel_rfl) (fun _ _ _ h => h) (by rfl) ?tyq9_12 hS0 ?trq9_12
      case tyq9_12 => (intro w' hSw; go_simp; try with_reducible rfl)
      simp only [Act.put, List.setIfInBounds_toArray, List.set_cons_zero, List.set_cons_succ]
      refine wpAnyK_takeL (i := 13) (v := ?tvq9_13) rfl (by decide) (by kernel_rfl) (by kernel_rfl) (by kernel_rfl) (by kernel_rfl) (by kernel_rfl) (fun _ _ _ h => h) (by rfl) ?tyq9_13 hS0 ?trq9_13
      case tyq9_13 => (intro w' hSw; go_simp; try with_reducible rfl)
      simp only [Act.put, List.setIfInBounds_toArray, List.set_cons_zero, List.set_cons_succ]
      refine wpAnyK_takeL (i := 14) (v := ?tvq9_14) rfl (by decide) (by kernel_rfl) (by kernel_rfl) (by kernel_rfl) (by kernel_rfl) (by kernel_rfl) (fun _ _ _ h => h) (by rfl) ?tyq9_14 hS0 ?trq9_14
      case tyq9_14 => (intro w' hSw; go_simp; try with_reducible rfl)
      simp only [Act.put, List.setIfInBounds_toArray, List.set_cons_zero, List.set_cons_succ]
      refine wpAnyK_one (i := 15) (by kernel_rfl) rfl (fun K hK => ?_)
      go_simp
      go_at_call 82
      refine (HD.out _).mono ?_
      rintro e w5 ⟨rfl, hb5⟩
      have B5 := Below.on (Below.drew (Below.refl _ W)) hb5
      have hS5 : (fun w' => RgB w' g l ∧ w'.heap[w.heap.size]? = some (.cells #[.int .i64 9, .int .i64 (a : Int), .int .i64 (b : Int), .int .i64 (k : Int), .int .i64 xn] 57)) w5 := ⟨hR.out.stay B5, (B5.block _ (Array.getElem?_eq_some_iff.1 HX.out).1).trans HX.out⟩
      refine hK.out _ _ (fun _ _ => hS5) ?_
      clear hK K
      refine wpAnyK_takeL (i := 16) (v := ?tvq9_16) rfl (by decide) (by kernel_rfl) (by kernel_rfl) (by kernel_rfl) (by kernel_rfl) (by kernel_rfl) (fun _ _ _ h => h) (by rfl) ?tyq9_16 hS5 ?trq9_16
      case tyq9_16 => (intro w' hSw; go_simp; try with_reducible rfl)
      simp only [Act.put, List.setIfInBounds_toArray, List.set_cons_zero, List.set_cons_succ]
      refine wpAnyK_takeL (i := 17) (v := ?tvq9_17) rfl (by decide) (by kernel_rfl) (by kernel_rfl) (by kernel_rfl) (by kernel_rfl) (by kernel_rfl) (fun _ _ _ h => h) (by rfl) ?tyq9_17 hS5 ?trq9_17
      case tyq9_17 => (intro w' hSw; go_simp; try with_reducible rfl)
      simp only [Act.put, List.setIfInBounds_toArray, List.set_cons_zero, List.set_cons_succ]
      refine wpAnyK_takeL (i := 19) (v := ?tvq9_19) rfl (by decide) (by kernel_rfl) (by kernel_rfl) (by kernel_rfl) (by kernel_rfl) (by kernel_rfl) (fun _ _ _ h => h) (by rfl) ?tyq9_19 hS5 ?trq9_19
      case tyq9_19 => (intro w' hSw; go_simp; try with_reducible rfl)
      simp only [Act.put, List.setIfInBounds_toArray, List.set_cons_zero, List.set_cons_succ]
      have c0 := hS5.1.c0 ha
      have c1 := hS5.1.c1 ha
      have cf := fun j => hS5.1.fz j
      have HF := Hid.mk' (HEND.out w5 _ hL.symm hS5.1 (HOW.out.trans (OnlyB.of_below B5)))
      refine wpAnyK_two (i := 18) (j := 20) (by kernel_rfl) rfl rfl (fun K hK => ?_) (fun K hK => ?_)
      · go_simp
        refine hK.out _ _ (fun _ _ => hS5) ?_
        clear hK K
        refine wpAnyK_one (i := 20) (by kernel_rfl) rfl (fun K hK => ?_)
        go_simp
        refine hK.out _ _ (fun h => absurd rfl h) ?_
        clear hK K
        refine wpAnyK_done (by kernel_rfl) ?_ _
        go_wp2_with fail
        exact bodyPost_end (results_none rfl _ _ _) rfl ⟨⟨_, rfl⟩, HF.out⟩
      · go_simp
        refine hK.out _ _ (fun h => absurd rfl h) ?_
        clear hK K
        refine wpAnyK_one (i := 18) (by kernel_rfl) rfl (fun K hK => ?_)
        go_simp
        refine hK.out _ _ (fun _ h => absurd h (by decide)) ?_
        clear hK K
        refine wpAnyK_done (by kernel_rfl) ?_ _
        go_wp2_with fail
        exact bodyPost_end (results_none rfl _ _ _) rfl ⟨⟨_, rfl⟩, HF.out⟩
  · have hL := HL2.out
    rw [if_neg h1, if_neg h2, if_neg h10, if_neg h18, if_neg h5] at hL
    subst hL
    have q3 : (op == 3) = false := beq_no fun e => h5 (.inl e)
    have q4 : (op == 4) = false := beq_no fun e => h5 (.inr (.inl e))
    have q5 : (op == 5) = false := beq_no fun e => h5 (.inr (.inr (.inl e)))
    have q8 : (op == 8) = false := beq_no fun e => h5 (.inr (.inr (.inr (.inl e))))
    have q9 : (op == 9) = false := beq_no fun e => h5 (.inr (.inr (.inr (.inr e))))
    have HF : Hid (RgB W g l ∧ OnlyB g w W) := ⟨hR.out, HOW.out⟩
    clear h1 h2 h10 h18 h5 HL2 HM HEND
    go_wp2_with fail
    exact bodyPost_end (results_none rfl _ _ _) rfl ⟨⟨_, rfl⟩, HF.out⟩
end Go.Proofs.YtfmkjdfidenfkaaDoor
