/- expr, at more kinds. -/
import Derived.Test.YtbpemackmadhgaaDoorP7
namespace Go.Proofs.YtbpemackmadhgaaDoor
open Go.RowKit Go.Sort

set_option maxRecDepth 100000 in
set_option maxHeartbeats 8000000 in
theorem exprTwo (k : Nat) (h2 : WithinOk k) (kn : Nat) (hkl : 7 ≤ kn) (hkh : kn ≤ 19) (n : Int) (s : ByteArray) (a : Option Addr) (c : Nat) (x y : Ex) (w : World) (hk : (Ex.mk kn n s a c [x, y]).sz ≤ k + 1) (hin : (Ex.mk kn n s a c [x, y]).In w) (ht : Tabs w) (hnt : NumT w) (hok : OkE (Ex.mk kn n s a c [x, y])) (hsz : (Ex.mk kn n s a c [x, y]).sz ≤ 1000000) :
    Calls Tryd.prog 68 #[(Ex.mk kn n s a c [x, y]).val] w fun e w' => e = .returned (sB (txE (Ex.mk kn n s a c [x, y]))) ∧ Below w.heap.size w w' := by
  have hlen := txE_len (w := w) _ _ (Nat.le_refl _) hin hok
  have hz := (Ex.mk kn n s a c [x, y]).sz_args
  simp only [Ex.args, szL] at hz
  have hin' := Ex.in_iff.1 hin
  simp only [Ex.kind, Ex.n, Ex.name, Ex.a, Ex.cap, Ex.args] at hin'
  obtain ⟨_, _, _, _, _, _, hrow, hsub⟩ := hin'
  have hoks := hok.parts.2
  simp only [Ex.args] at hoks
  have HC : Hid (cat [⟨(wiB (rkE x.kind) (formE kn).rank (txE x)).toArray⟩, ⟨#[32]⟩, (formE kn).sign, ⟨#[32]⟩, ⟨(wiB (rkE y.kind) ((formE kn).rank + 1) (txE y)).toArray⟩] = txE (Ex.mk kn n s a c [x, y])) := tx2 kn n (by omega) (by omega) s a c x y
  have HLEN : Hid ((cat [⟨(wiB (rkE x.kind) (formE kn).rank (txE x)).toArray⟩, ⟨#[32]⟩, (formE kn).sign, ⟨#[32]⟩, ⟨(wiB (rkE y.kind) ((formE kn).rank + 1) (txE y)).toArray⟩]).length ≤ 140737488355328) := by show _ ≤ _; rw [HC.out]; omega
  have HX : Hid (∀ w', Below w.heap.size w w' → Calls Tryd.prog 88 #[.agg #[.int .i64 x.kind, .int .i64 x.n, .string x.name, .slice x.a x.args.length x.cap], .int .i64 (formE kn).rank] w' fun e w'' => e = .returned (sB (wiB (rkE x.kind) (formE kn).rank (txE x))) ∧ Below w'.heap.size w' w'') := fun w' hb => h2 x ((formE kn).rank) w' (by omega) ((hsub x (by simp)).stay hb) (ht.stay hb) (hnt.stay hb) (hoks x (by simp)) (by omega)
  have HY : Hid (∀ w', Below w.heap.size w w' → Calls Tryd.prog 88 #[.agg #[.int .i64 y.kind, .int .i64 y.n, .string y.name, .slice y.a y.args.length y.cap], .int .i64 ((formE kn).rank + 1)] w' fun e w'' => e = .returned (sB (wiB (rkE y.kind) ((formE kn).rank + 1) (txE y))) ∧ Below w'.heap.size w' w'') := fun w' hb => h2 y ((formE kn).rank + 1) w' (by omega) ((hsub y (by simp)).stay hb) (ht.stay hb) (hnt.stay hb) (hoks y (by simp)) (by omega)
  obtain ⟨t0, t1, t2, t3⟩ := ht.2 kn (by omega)
  have h1w : 1 < w.heap.size := lt_of_cell t0
  obtain ⟨b, o, rfl, c0, c1, c2, c3⟩ := row_0 hrow
  obtain ⟨b1, o1, he1, d0, d1, d2, d3⟩ := row_1 hrow
  cases he1
  have q1 : ((kn : Int) == 1) = false := by simp only [beq_eq_false_iff_ne]; omega
  have q2 : ((kn : Int) == 2) = false := by simp only [beq_eq_false_iff_ne]; omega
  have q3 : ((kn : Int) == 3) = false := by simp only [beq_eq_false_iff_ne]; omega
  have q4 : ((kn : Int) == 4) = false := by simp only [beq_eq_false_iff_ne]; omega
  have q5 : ((kn : Int) == 5) = false := by simp only [beq_eq_false_iff_ne]; omega
  have q6 : ((kn : Int) == 6) = false := by simp only [beq_eq_false_iff_ne]; omega
  have q20 : ((kn : Int) == 20) = false := by simp only [beq_eq_false_iff_ne]; omega
  have hwr : IntKind.i64.wrap ((formE kn).rank + 1) = (formE kn).rank + 1 := by rw [IntKind.wrap_i64]; have := rank_bd kn (by omega); omega
  clear h2 hin ht hnt hok hrow hsub hoks
  unfold Ex.val
  simp only [Ex.kind, Ex.n, Ex.name, Ex.a, Ex.cap, Ex.args]
  go_enter Tryd.func68, Tryd.ntmps68
  go_wp2_with fail
  obtain ⟨hb0, x0, x1, x2, x3, f2, f3⟩ := exW_facts kn n s (.slice (some ⟨b, o, none⟩) 2 c) (formE kn) w
  obtain ⟨W0, hW0⟩ : ∃ W0, exW kn n s (.slice (some ⟨b, o, none⟩) 2 c) (formE kn) w = W0 := ⟨_, rfl⟩
  rw [hW0] at hb0 x0 x1 x2 x3 f2 f3
  unfold exW at hW0
  rw [hW0]
  have HB0 : Hid (Below w.heap.size w W0) := hb0
  have c0 := seen ((hb0.cell (lt_of_cell c0)).trans c0)
  have c1 := seen ((hb0.cell (lt_of_cell c1)).trans c1)
  have c2 := seen ((hb0.cell (lt_of_cell c2)).trans c2)
  have c3 := seen ((hb0.cell (lt_of_cell c3)).trans c3)
  have d0 := seen ((hb0.cell (lt_of_cell d0)).trans d0)
  have d1 := seen ((hb0.cell (lt_of_cell d1)).trans d1)
  have d2 := seen ((hb0.cell (lt_of_cell d2)).trans d2)
  have d3 := seen ((hb0.cell (lt_of_cell d3)).trans d3)
  have x2 := seen x2
  have x3 := seen x3
  have f2 := seen f2
  have f3 := seen f3
  clear hW0 hb0 x0 x1 t0 t1 t2 t3 h1w hk hsz hlen hz
  go_region_held3 (fun w' => Below W0.heap.size W0 w') (first | exact Below.drew (Below.refl _ _) | exact Below.on (by assumption) (by assumption) | exact Below.one (by assumption) _)
    (first
      | (go_at_call_of 88 (x.kind); refine (HX.out _ (Below.on HB0.out (by assumption))).mono ?_; rintro e w' ⟨rfl, hb⟩)
      | (go_at_call_of 88 (y.kind); refine (HY.out _ (Below.on HB0.out (by assumption))).mono ?_; rintro e w' ⟨rfl, hb⟩)
      | (go_at_call 56; refine (join_new [⟨(wiB (rkE x.kind) (formE kn).rank (txE x)).toArray⟩, ⟨#[32]⟩, (formE kn).sign, ⟨#[32]⟩, ⟨(wiB (rkE y.kind) ((formE kn).rank + 1) (txE y)).toArray⟩] _ (Nat.le_of_ble_eq_true rfl) HLEN.out).mono ?_; rintro e w' ⟨rfl, hb⟩))
  all_goals go_wp2_with fail
  all_goals go_ret
  all_goals exact ⟨ret_str HC.out, Below.on HB0.out (by assumption)⟩
end Go.Proofs.YtbpemackmadhgaaDoor
