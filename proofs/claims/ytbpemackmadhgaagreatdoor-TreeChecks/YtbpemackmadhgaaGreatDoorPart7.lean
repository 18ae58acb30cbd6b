/- expr, at more kinds. -/
import Derived.Test.YtbpemackmadhgaaGreatDoorPart6
import Derived.Test.YtbpemackmadhgaaGreatDoorPart2
import Derived.Test.YtbpemackmadhgaaGreatDoorPart5
import Derived.Test.YtbpemackmadhgaaGreatDoorPart1
import Derived.Laws.StructEq
namespace Go.Proofs.YtbpemackmadhgaaGreatDoor
open Go.RowKit Go.Sort

set_option maxRecDepth 100000 in
set_option maxHeartbeats 8000000 in
theorem expr20 (k : Nat) (h1 : ExprOk k) (h2 : WithinOk k) (n : Int) (s : ByteArray) (a : Option Addr) (c : Nat) (x y z : Ex) (w : World) (hk : (Ex.mk 20 n s a c [x, y, z]).sz ≤ k + 1) (hin : (Ex.mk 20 n s a c [x, y, z]).In w) (ht : Tabs w) (hnt : NumT w) (hok : OkE (Ex.mk 20 n s a c [x, y, z])) (hsz : (Ex.mk 20 n s a c [x, y, z]).sz ≤ 1000000) :
    Calls Tryz.prog 88 #[(Ex.mk 20 n s a c [x, y, z]).val] w fun e w' => e = .returned (sB (txE (Ex.mk 20 n s a c [x, y, z]))) ∧ Below w.heap.size w w' := by
  have hlen := txE_len (w := w) _ _ (Nat.le_refl _) hin hok
  have hz := (Ex.mk 20 n s a c [x, y, z]).sz_args
  simp only [Ex.args, szL] at hz
  have hin' := Ex.in_iff.1 hin
  simp only [Ex.kind, Ex.n, Ex.name, Ex.a, Ex.cap, Ex.args] at hin'
  obtain ⟨_, _, _, _, _, _, hrow, hsub⟩ := hin'
  have hoks := hok.parts.2
  simp only [Ex.args] at hoks
  have HC : Hid (cat [⟨(wiB (rkE x.kind) ((formE 20).rank + 1) (txE x)).toArray⟩, ⟨#[32, 63, 32]⟩, ⟨(txE y).toArray⟩, ⟨#[32, 58, 32]⟩, ⟨(txE z).toArray⟩] = txE (Ex.mk 20 n s a c [x, y, z])) := tx20 n s a c x y z
  have HLEN : Hid ((cat [⟨(wiB (rkE x.kind) ((formE 20).rank + 1) (txE x)).toArray⟩, ⟨#[32, 63, 32]⟩, ⟨(txE y).toArray⟩, ⟨#[32, 58, 32]⟩, ⟨(txE z).toArray⟩]).length ≤ 140737488355328) := by show _ ≤ _; rw [HC.out]; omega
  have HX : Hid (∀ w', Below w.heap.size w w' → Calls Tryz.prog 109 #[.agg #[.int .i64 x.kind, .int .i64 x.n, .string x.name, .slice x.a x.args.length x.cap], .int .i64 ((formE 20).rank + 1)] w' fun e w'' => e = .returned (sB (wiB (rkE x.kind) ((formE 20).rank + 1) (txE x))) ∧ Below w'.heap.size w' w'') := fun w' hb => h2 x ((formE 20).rank + 1) w' (by omega) ((hsub x (by simp)).stay hb) (ht.stay hb) (hnt.stay hb) (hoks x (by simp)) (by omega)
  have HY : Hid (∀ w', Below w.heap.size w w' → Calls Tryz.prog 88 #[.agg #[.int .i64 y.kind, .int .i64 y.n, .string y.name, .slice y.a y.args.length y.cap]] w' fun e w'' => e = .returned (sB (txE y)) ∧ Below w'.heap.size w' w'') := fun w' hb => h1 y w' (by omega) ((hsub y (by simp)).stay hb) (ht.stay hb) (hnt.stay hb) (hoks y (by simp)) (by omega)
  have HZ : Hid (∀ w', Below w.heap.size w w' → Calls Tryz.prog 88 #[.agg #[.int .i64 z.kind, .int .i64 z.n, .string z.name, .slice z.a z.args.length z.cap]] w' fun e w'' => e = .returned (sB (txE z)) ∧ Below w'.heap.size w' w'') := fun w' hb => h1 z w' (by omega) ((hsub z (by simp)).stay hb) (ht.stay hb) (hnt.stay hb) (hoks z (by simp)) (by omega)
  obtain ⟨t0, t1, t2, t3⟩ := ht.2 20 (by omega)
  have h1w : 1 < w.heap.size := lt_of_cell t0
  obtain ⟨b, o, rfl, c0, c1, c2, c3⟩ := row_0 hrow
  obtain ⟨b1, o1, he1, d0, d1, d2, d3⟩ := row_1 hrow
  cases he1
  obtain ⟨b2, o2, he2, e0, e1, e2, e3⟩ := row_2 hrow
  cases he2
  have hwr : IntKind.i64.wrap ((formE 20).rank + 1) = (formE 20).rank + 1 := by rw [IntKind.wrap_i64]; have := rank_bd 20 (by omega); omega
  clear h1 h2 hin ht hnt hok hrow hsub hoks
  unfold Ex.val
  simp only [Ex.kind, Ex.n, Ex.name, Ex.a, Ex.cap, Ex.args]
  go_enter Tryz.func88, Tryz.ntmps88
  go_wp2_with fail
  obtain ⟨hb0, x0, x1, x2, x3, f2, f3⟩ := exW_facts 20 n s (.slice (some ⟨b, o, none⟩) 3 c) (formE 20) w
  obtain ⟨W0, hW0⟩ : ∃ W0, exW 20 n s (.slice (some ⟨b, o, none⟩) 3 c) (formE 20) w = W0 := ⟨_, rfl⟩
  rw [hW0] at hb0 x0 x1 x2 x3 f2 f3
  unfold exW at hW0
  rw [hW0]
  have HB0 : Hid (Below w.heap.size w W0) := hb0
  have c0 := seen ((hb0.cell (lt_of_cell c0)).trans c0)
  have c1 := seen ((hb0.cell (lt_of_cell c1)).trans c1)
  have c2 := seen ((hb0.cell (lt_of_cell c2)).trans c2)
  have c3 := seen ((hb0.cell (lt_of_cell c3)).trans c3)
  have d0 := seen ((hb0.cell (lt_of_cell d0)).trans d0)
  have d1 := seen ((hb0.cell (lt_of_cell d1)).trans d1)
  have d2 := seen ((hb0.cell (lt_of_cell d2)).trans d2)
  have d3 := seen ((hb0.cell (lt_of_cell d3)).trans d3)
  have e0 := seen ((hb0.cell (lt_of_cell e0)).trans e0)
  have e1 := seen ((hb0.cell (lt_of_cell e1)).trans e1)
  have e2 := seen ((hb0.cell (lt_of_cell e2)).trans e2)
  have e3 := seen ((hb0.cell (lt_of_cell e3)).trans e3)
  have x2 := seen x2
  have x3 := seen x3
  have f2 := seen f2
  have f3 := seen f3
  clear hW0 hb0 x0 x1 t0 t1 t2 t3 h1w hk hsz hlen hz
  go_region_held3 (fun w' => Below W0.heap.size W0 w') (first | exact Below.drew (Below.refl _ _) | exact Below.on (by assumption) (by assumption) | exact Below.one (by assumption) _)
    (first
      | (go_at_call_of 109 (x.kind); refine (HX.out _ (Below.on HB0.out (by assumption))).mono ?_; rintro e w' ⟨rfl, hb⟩)
      | (go_at_call_of 88 (y.kind); refine (HY.out _ (Below.on HB0.out (by assumption))).mono ?_; rintro e w' ⟨rfl, hb⟩)
      | (go_at_call_of 88 (z.kind); refine (HZ.out _ (Below.on HB0.out (by assumption))).mono ?_; rintro e w' ⟨rfl, hb⟩)
      | (go_at_call 61; refine (join_new [⟨(wiB (rkE x.kind) ((formE 20).rank + 1) (txE x)).toArray⟩, ⟨#[32, 63, 32]⟩, ⟨(txE y).toArray⟩, ⟨#[32, 58, 32]⟩, ⟨(txE z).toArray⟩] _ (Nat.le_of_ble_eq_true rfl) HLEN.out).mono ?_; rintro e w' ⟨rfl, hb⟩))
  all_goals go_wp2_with fail
  all_goals go_ret
  all_goals exact ⟨ret_str HC.out, Below.on HB0.out (by assumption)⟩
end Go.Proofs.YtbpemackmadhgaaGreatDoor

/- expr, at more kinds. -/
namespace Go.Proofs.YtbpemackmadhgaaGreatDoor
open Go.RowKit Go.Sort

set_option maxRecDepth 100000 in
set_option maxHeartbeats 8000000 in
theorem exprTwo (k : Nat) (h2 : WithinOk k) (kn : Nat) (hkl : 7 ≤ kn) (hkh : kn ≤ 19) (n : Int) (s : ByteArray) (a : Option Addr) (c : Nat) (x y : Ex) (w : World) (hk : (Ex.mk kn n s a c [x, y]).sz ≤ k + 1) (hin : (Ex.mk kn n s a c [x, y]).In w) (ht : Tabs w) (hnt : NumT w) (hok : OkE (Ex.mk kn n s a c [x, y])) (hsz : (Ex.mk kn n s a c [x, y]).sz ≤ 1000000) :
    Calls Tryz.prog 88 #[(Ex.mk kn n s a c [x, y]).val] w fun e w' => e = .returned (sB (txE (Ex.mk kn n s a c [x, y]))) ∧ Below w.heap.size w w' := by
  have hlen := txE_len (w := w) _ _ (Nat.le_refl _) hin hok
  have hz := (Ex.mk kn n s a c [x, y]).sz_args
  simp only [Ex.args, szL] at hz
  have hin' := Ex.in_iff.1 hin
  simp only [Ex.kind, Ex.n, Ex.name, Ex.a, Ex.cap, Ex.args] at hin'
  obtain ⟨_, _, _, _, _, _, hrow, hsub⟩ := hin'
  have hoks := hok.parts.2
  simp only [Ex.args] at hoks
  have HC : Hid (cat [⟨(wiB (rkE x.kind) (formE kn).rank (txE x)).toArray⟩, ⟨#[32]⟩, (formE kn).sign, ⟨#[32]⟩, ⟨(wiB (rkE y.kind) ((formE kn).rank + 1) (txE y)).toArray⟩] = txE (Ex.mk kn n s a c [x, y])) := tx2 kn n (by omega) (by omega) s a c x y
  have HLEN : Hid ((cat [⟨(wiB (rkE x.kind) (formE kn).rank (txE x)).toArray⟩, ⟨#[32]⟩, (formE kn).sign, ⟨#[32]⟩, ⟨(wiB (rkE y.kind) ((formE kn).rank + 1) (txE y)).toArray⟩]).length ≤ 140737488355328) := by show _ ≤ _; rw [HC.out]; omega
  have HX : Hid (∀ w', Below w.heap.size w w' → Calls Tryz.prog 109 #[.agg #[.int .i64 x.kind, .int .i64 x.n, .string x.name, .slice x.a x.args.length x.cap], .int .i64 (formE kn).rank] w' fun e w'' => e = .returned (sB (wiB (rkE x.kind) (formE kn).rank (txE x))) ∧ Below w'.heap.size w' w'') := fun w' hb => h2 x ((formE kn).rank) w' (by omega) ((hsub x (by simp)).stay hb) (ht.stay hb) (hnt.stay hb) (hoks x (by simp)) (by omega)
  have HY : Hid (∀ w', Below w.heap.size w w' → Calls Tryz.prog 109 #[.agg #[.int .i64 y.kind, .int .i64 y.n, .string y.name, .slice y.a y.args.length y.cap], .int .i64 ((formE kn).rank + 1)] w' fun e w'' => e = .returned (sB (wiB (rkE y.kind) ((formE kn).rank + 1) (txE y))) ∧ Below w'.heap.size w' w'') := fun w' hb => h2 y ((formE kn).rank + 1) w' (by omega) ((hsub y (by simp)).stay hb) (ht.stay hb) (hnt.stay hb) (hoks y (by simp)) (by omega)
  obtain ⟨t0, t1, t2, t3⟩ := ht.2 kn (by omega)
  have h1w : 1 < w.heap.size := lt_of_cell t0
  obtain ⟨b, o, rfl, c0, c1, c2, c3⟩ := row_0 hrow
  obtain ⟨b1, o1, he1, d0, d1, d2, d3⟩ := row_1 hrow
  cases he1
  have q1 : ((kn : Int) == 1) = false := by simp only [beq_eq_false_iff_ne]; omega
  have q2 : ((kn : Int) == 2) = false := by simp only [beq_eq_false_iff_ne]; omega
  have q3 : ((kn : Int) == 3) = false := by simp only [beq_eq_false_iff_ne]; omega
  have q4 : ((kn : Int) == 4) = false := by simp only [beq_eq_false_iff_ne]; omega
  have q5 : ((kn : Int) == 5) = false := by simp only [beq_eq_false_iff_ne]; omega
  have q6 : ((kn : Int) == 6) = false := by simp only [beq_eq_false_iff_ne]; omega
  have q20 : ((kn : Int) == 20) = false := by simp only [beq_eq_false_iff_ne]; omega
  have hwr : IntKind.i64.wrap ((formE kn).rank + 1) = (formE kn).rank + 1 := by rw [IntKind.wrap_i64]; have := rank_bd kn (by omega); omega
  clear h2 hin ht hnt hok hrow hsub hoks
  unfold Ex.val
  simp only [Ex.kind, Ex.n, Ex.name, Ex.a, Ex.cap, Ex.args]
  go_enter Tryz.func88, Tryz.ntmps88
  go_wp2_with fail
  obtain ⟨hb0, x0, x1, x2, x3, f2, f3⟩ := exW_facts kn n s (.slice (some ⟨b, o, none⟩) 2 c) (formE kn) w
  obtain ⟨W0, hW0⟩ : ∃ W0, exW kn n s (.slice (some ⟨b, o, none⟩) 2 c) (formE kn) w = W0 := ⟨_, rfl⟩
  rw [hW0] at hb0 x0 x1 x2 x3 f2 f3
  unfold exW at hW0
  rw [hW0]
  have HB0 : Hid (Below w.heap.size w W0) := hb0
  have c0 := seen ((hb0.cell (lt_of_cell c0)).trans c0)
  have c1 := seen ((hb0.cell (lt_of_cell c1)).trans c1)
  have c2 := seen ((hb0.cell (lt_of_cell c2)).trans c2)
  have c3 := seen ((hb0.cell (lt_of_cell c3)).trans c3)
  have d0 := seen ((hb0.cell (lt_of_cell d0)).trans d0)
  have d1 := seen ((hb0.cell (lt_of_cell d1)).trans d1)
  have d2 := seen ((hb0.cell (lt_of_cell d2)).trans d2)
  have d3 := seen ((hb0.cell (lt_of_cell d3)).trans d3)
  have x2 := seen x2
  have x3 := seen x3
  have f2 := seen f2
  have f3 := seen f3
  clear hW0 hb0 x0 x1 t0 t1 t2 t3 h1w hk hsz hlen hz
  go_region_held3 (fun w' => Below W0.heap.size W0 w') (first | exact Below.drew (Below.refl _ _) | exact Below.on (by assumption) (by assumption) | exact Below.one (by assumption) _)
    (first
      | (go_at_call_of 109 (x.kind); refine (HX.out _ (Below.on HB0.out (by assumption))).mono ?_; rintro e w' ⟨rfl, hb⟩)
      | (go_at_call_of 109 (y.kind); refine (HY.out _ (Below.on HB0.out (by assumption))).mono ?_; rintro e w' ⟨rfl, hb⟩)
      | (go_at_call 61; refine (join_new [⟨(wiB (rkE x.kind) (formE kn).rank (txE x)).toArray⟩, ⟨#[32]⟩, (formE kn).sign, ⟨#[32]⟩, ⟨(wiB (rkE y.kind) ((formE kn).rank + 1) (txE y)).toArray⟩] _ (Nat.le_of_ble_eq_true rfl) HLEN.out).mono ?_; rintro e w' ⟨rfl, hb⟩))
  all_goals go_wp2_with fail
  all_goals go_ret
  all_goals exact ⟨ret_str HC.out, Below.on HB0.out (by assumption)⟩
end Go.Proofs.YtbpemackmadhgaaGreatDoor

/- expr at numbers, names and calls; expr at every expression that has a form. -/
namespace Go.Proofs.YtbpemackmadhgaaGreatDoor
open Go.RowKit Go.Sort

theorem commas_of {w : World} {v : Value} {xs : List ByteArray} {t : List UInt8} (h : Strs w v xs) (ht : comB (xs.map (·.data.toList)) = t) (hn : xs.length ≤ 1000000) (hlen : t.length ≤ 140737488355328) :
    Calls Tryz.prog 36 #[v] w fun e w' => e = .returned (sB t) ∧ Below w.heap.size w w' := by
  obtain ⟨a, cap, rfl, hcap, hc⟩ := h
  have := commas_any xs a cap w hc hn hcap (by rw [ht]; exact hlen)
  rwa [ht] at this
theorem len_szL : ∀ l : List Ex, l.length ≤ szL l
  | [] => by simp
  | x :: r => by rw [szL, List.length_cons]; have := x.sz_pos; have := len_szL r; omega
theorem comB_map (l : List Ex) : comB ((l.map fun x => (⟨(txE x).toArray⟩ : ByteArray)).map (·.data.toList)) = comB (l.map txE) := by
  rw [List.map_map]; rfl

set_option maxRecDepth 100000 in
set_option maxHeartbeats 4000000 in
theorem expr1 (n : Int) (s : ByteArray) (a : Option Addr) (c : Nat) (l : List Ex) (w : World) (hI : I64 n) (ht : Tabs w) (hnt : NumT w) :
    Calls Tryz.prog 88 #[(Ex.mk 1 n s a c l).val] w fun e w' => e = .returned (sB (Lib.itoa n)) ∧ Below w.heap.size w w' := by
  have HN : Hid (∀ w', Below w.heap.size w w' → Calls Tryz.prog 38 #[.int .i64 n] w' fun e w'' => e = .returned (sB (Lib.itoa n)) ∧ Below w'.heap.size w' w'') := fun w' hb => number_any n w' hI (hnt.stay hb)
  obtain ⟨t0, t1, t2, t3⟩ := ht.2 1 (by omega)
  have h1w : 1 < w.heap.size := lt_of_cell t0
  have hb0 := (exW_facts 1 n s (.slice a l.length c) (formE 1) w).1
  unfold exW at hb0
  clear ht hnt
  unfold Ex.val
  simp only [Ex.kind, Ex.n, Ex.name, Ex.a, Ex.cap, Ex.args]
  go_enter Tryz.func88, Tryz.ntmps88
  go_wp2_with fail
  refine (HN.out _ hb0).mono ?_
  rintro e w1 ⟨rfl, hb1⟩
  go_wp2_with fail
  go_ret
  exact ⟨rfl, Below.on hb0 hb1⟩

set_option maxRecDepth 100000 in
set_option maxHeartbeats 4000000 in
theorem expr2 (n : Int) (s : ByteArray) (a : Option Addr) (c : Nat) (l : List Ex) (w : World) (ht : Tabs w) :
    Calls Tryz.prog 88 #[(Ex.mk 2 n s a c l).val] w fun e w' => e = .returned (.string s) ∧ Below w.heap.size w w' := by
  obtain ⟨t0, t1, t2, t3⟩ := ht.2 2 (by omega)
  have h1w : 1 < w.heap.size := lt_of_cell t0
  have hb0 := (exW_facts 2 n s (.slice a l.length c) (formE 2) w).1
  unfold exW at hb0
  clear ht
  unfold Ex.val
  simp only [Ex.kind, Ex.n, Ex.name, Ex.a, Ex.cap, Ex.args]
  go_enter Tryz.func88, Tryz.ntmps88
  go_wp2_with fail
  go_ret
  exact ⟨rfl, hb0⟩

set_option maxRecDepth 100000 in
set_option maxHeartbeats 8000000 in
theorem expr4 (k : Nat) (h1 : ExprOk k) (n : Int) (s : ByteArray) (a : Option Addr) (c : Nat) (l : List Ex) (w : World) (hk : (Ex.mk 4 n s a c l).sz ≤ k + 1) (hin : (Ex.mk 4 n s a c l).In w) (ht : Tabs w) (hnt : NumT w) (hok : OkE (Ex.mk 4 n s a c l)) (hsz : (Ex.mk 4 n s a c l).sz ≤ 1000000) :
    Calls Tryz.prog 88 #[(Ex.mk 4 n s a c l).val] w fun e w' => e = .returned (sB (txE (Ex.mk 4 n s a c l))) ∧ Below w.heap.size w w' := by
  have hlen := txE_len (w := w) _ _ (Nat.le_refl _) hin hok
  have hz := (Ex.mk 4 n s a c l).sz_args
  simp only [Ex.args] at hz
  have hin' := Ex.in_iff.1 hin
  simp only [Ex.kind, Ex.n, Ex.name, Ex.a, Ex.cap, Ex.args] at hin'
  obtain ⟨_, _, _, _, _, _, hrow, hsub⟩ := hin'
  have hoks := hok.parts.2
  simp only [Ex.args] at hoks
  have hll := len_szL l
  have HC : Hid (cat [s, ⟨#[40]⟩, ⟨(comB (l.map txE)).toArray⟩, ⟨#[41]⟩] = txE (Ex.mk 4 n s a c l)) := tx4 n s a c l
  have HLEN : Hid ((cat [s, ⟨#[40]⟩, ⟨(comB (l.map txE)).toArray⟩, ⟨#[41]⟩]).length ≤ 140737488355328) := by show _ ≤ _; rw [HC.out]; omega
  have HLE2 : Hid ((comB (l.map txE)).length ≤ 140737488355328) := by show _ ≤ _; have := HLEN.out; simp [cat] at this; omega
  have HEA : Hid (∀ w', Below w.heap.size w w' → Calls Tryz.prog 108 #[.slice a l.length c, .func (.func 88) #[] #[]] w' fun e w'' => ∃ va vc, e = .returned (.slice va l.length vc) ∧ Hid (Strs w'' (.slice va l.length vc) (l.map fun x => ⟨(txE x).toArray⟩)) ∧ Below w'.heap.size w' w'') := fun w' hb =>
    (eachExpr_any l a c w' (by omega) (hrow.below hb) (fun x hx w'' hb' => h1 x w'' (by have := szL_mem hx; omega) (((hsub x hx).stay hb).stay hb') ((ht.stay hb).stay hb') ((hnt.stay hb).stay hb') (hoks x hx) (by have := szL_mem hx; omega))).mono fun e w'' ⟨v, he, hs, hb'⟩ => by
      obtain ⟨va, vc, hv, hcap, hcc⟩ := hs
      rw [List.length_map] at hv hcap
      subst hv
      exact ⟨va, vc, he, ⟨va, vc, by rw [List.length_map], by rw [List.length_map]; exact hcap, hcc⟩, hb'⟩
  have HLM : Hid ((l.map fun x => (⟨(txE x).toArray⟩ : ByteArray)).length ≤ 1000000) := by show _ ≤ _; rw [List.length_map]; omega
  obtain ⟨t0, t1, t2, t3⟩ := ht.2 4 (by omega)
  have h1w : 1 < w.heap.size := lt_of_cell t0
  clear h1 hin ht hnt hok hrow hsub hoks
  unfold Ex.val
  simp only [Ex.kind, Ex.n, Ex.name, Ex.a, Ex.cap, Ex.args]
  go_enter Tryz.func88, Tryz.ntmps88
  go_wp2_with fail
  obtain ⟨hb0, x0, x1, x2, x3, f2, f3⟩ := exW_facts 4 n s (.slice a l.length c) (formE 4) w
  obtain ⟨W0, hW0⟩ : ∃ W0, exW 4 n s (.slice a l.length c) (formE 4) w = W0 := ⟨_, rfl⟩
  rw [hW0] at hb0 x0 x1 x2 x3 f2 f3
  unfold exW at hW0
  rw [hW0]
  have HB0 : Hid (Below w.heap.size w W0) := hb0
  have x2 := seen x2
  have x3 := seen x3
  clear hW0 hb0 x0 x1 f2 f3 t0 t1 t2 t3 h1w hk hsz hlen hz hll
  go_region_held3 (fun w' => Below W0.heap.size W0 w') (first | exact Below.drew (Below.refl _ _) | exact Below.on (by assumption) (by assumption) | exact Below.one (by assumption) _)
    (first
      | (go_at_call 108; refine (HEA.out _ (Below.on HB0.out (by assumption))).mono ?_; rintro e w' ⟨va, vc, rfl, hs, hb⟩)
      | (go_at_call 36; refine (commas_of hs.out (comB_map l) HLM.out HLE2.out).mono ?_; rintro e w' ⟨rfl, hb⟩)
      | (go_at_call 61; refine (join_new [s, ⟨#[40]⟩, ⟨(comB (l.map txE)).toArray⟩, ⟨#[41]⟩] _ (Nat.le_of_ble_eq_true rfl) HLEN.out).mono ?_; rintro e w' ⟨rfl, hb⟩))
  all_goals go_wp2_with fail
  all_goals go_ret
  all_goals exact ⟨ret_str HC.out, Below.on HB0.out (by assumption)⟩

theorem expr_step (k : Nat) (h1 : ExprOk k) : ExprOk (k + 1) := by
  have h2 : WithinOk k := fun x least w hk hin ht hnt hok hsz => within_step k h1 x least w hk hin ht hnt hok hsz
  intro x w hk hin ht hnt hok hsz
  obtain ⟨kn, hkn, hk1, hk2, hlen, _, _⟩ := selfE_zero hok.parts.1
  obtain ⟨kd, n, s, a, c, l⟩ := x
  simp only [Ex.kind, Ex.args] at hkn hlen
  subst hkn
  have hI : I64 n := (Ex.in_iff.1 hin).2.1
  by_cases e1 : kn = 1
  · subst e1
    have : txE (Ex.mk ((1 : Nat) : Int) n s a c l) = Lib.itoa n := by rw [txE_eq]; rfl
    rw [this]
    exact expr1 n s a c l w hI ht hnt
  by_cases e2 : kn = 2
  · subst e2
    have : txE (Ex.mk ((2 : Nat) : Int) n s a c l) = s.data.toList := by rw [txE_eq]; rfl
    rw [this]
    exact expr2 n s a c l w ht
  by_cases e3 : kn = 3
  · subst e3
    match l, hlen (by decide) with
    | [y], _ => exact expr3 k h1 n s a c y w hk hin ht hnt hok hsz
    | [], h => simp [formE] at h
    | _ :: _ :: _, h => simp [formE] at h; omega
  by_cases e4 : kn = 4
  · subst e4; exact expr4 k h1 n s a c l w hk hin ht hnt hok hsz
  by_cases e5 : kn = 5
  · subst e5
    match l, hlen (by decide) with
    | [y], _ => exact expr5 k h2 n s a c y w hk hin ht hnt hok hsz
    | [], h => simp [formE] at h
    | _ :: _ :: _, h => simp [formE] at h; omega
  by_cases e6 : kn = 6
  · subst e6
    match l, hlen (by decide) with
    | [y], _ => exact expr6 k h2 n s a c y w hk hin ht hnt hok hsz
    | [], h => simp [formE] at h
    | _ :: _ :: _, h => simp [formE] at h; omega
  by_cases e20 : kn = 20
  · subst e20
    match l, hlen (by decide) with
    | [x, y, z], _ => exact expr20 k h1 h2 n s a c x y z w hk hin ht hnt hok hsz
    | [], h => simp [formE] at h
    | [_], h => simp [formE] at h
    | [_, _], h => simp [formE] at h
    | _ :: _ :: _ :: _ :: _, h => simp [formE] at h; omega
  · have ha := args_two kn (by omega) hk2 e20
    rw [ha] at hlen
    match l, hlen (by decide) with
    | [x, y], _ => exact exprTwo k h2 kn (by omega) (by omega) n s a c x y w hk hin ht hnt hok hsz
    | [], h => simp at h
    | [_], h => simp at h
    | _ :: _ :: _ :: _, h => simp at h; omega
theorem expr_all (k : Nat) : ExprOk k := by
  induction k with
  | zero => intro x w h; have := x.sz_pos; omega
  | succ k ih => exact expr_step k ih
theorem expr_any (x : Ex) (w : World) (hin : x.In w) (ht : Tabs w) (hnt : NumT w) (hok : OkE x) (hsz : x.sz ≤ 1000000) : Calls Tryz.prog 88 #[x.val] w fun e w' => e = .returned (sB (txE x)) ∧ Below w.heap.size w w' := expr_all _ x w (Nat.le_refl _) hin ht hnt hok hsz
end Go.Proofs.YtbpemackmadhgaaGreatDoor

/- Statements' and programs' texts. -/
namespace Go.Proofs.YtbpemackmadhgaaGreatDoor
open Go.RowKit

mutual
def txS : St → Nat → List UInt8
  | .mk k s n a b _ _ l _ _ e _ _ c, d =>
    if k = 1 then lineB d ([108, 101, 116, 32] ++ s.data.toList ++ [32, 61, 32] ++ txE a ++ [59])
    else if k = 2 then lineB d ([108, 101, 116, 32] ++ s.data.toList ++ [91] ++ Lib.itoa n ++ [93, 59])
    else if k = 3 then lineB d (s.data.toList ++ [32, 61, 32] ++ txE a ++ [59])
    else if k = 4 then lineB d (s.data.toList ++ [91] ++ txE a ++ [93, 32, 61, 32] ++ txE b ++ [59])
    else if k = 5 then lineB d ([105, 102, 32] ++ txE a ++ [32, 123]) ++ txSs l (d + 1) ++ (if e.length = 0 then [] else lineB d [125, 32, 101, 108, 115, 101, 32, 123] ++ txSs e (d + 1)) ++ lineB d [125]
    else if k = 6 then lineB d ([115, 119, 105, 116, 99, 104, 32] ++ txE a ++ [32, 123]) ++ txCs c (d + 1) ++ (if e.length = 0 then [] else lineB (d + 1) [101, 108, 115, 101, 32, 123] ++ txSs e (d + 2) ++ lineB (d + 1) [125]) ++ lineB d [125]
    else if k = 7 then lineB d ([102, 111, 114, 32] ++ s.data.toList ++ [32, 105, 110, 32] ++ txE a ++ [46, 46] ++ txE b ++ [32, 123]) ++ txSs l (d + 1) ++ lineB d [125]
    else if k = 8 then lineB d [98, 114, 101, 97, 107, 59]
    else if k = 9 then lineB d ([114, 101, 116, 117, 114, 110, 32] ++ txE a ++ [59])
    else lineB d (txE a ++ [59])
def txSs : List St → Nat → List UInt8
  | [], _ => []
  | s :: r, d => txS s d ++ txSs r d
def txC : Ca → Nat → List UInt8
  | .mk n _ _ l, d => lineB d ([99, 97, 115, 101, 32] ++ Lib.itoa n ++ [32, 123]) ++ txSs l (d + 1) ++ lineB d [125]
def txCs : List Ca → Nat → List UInt8
  | [], _ => []
  | c :: r, d => txC c d ++ txCs r d
end
theorem txSs_take (l : List St) (d j : Nat) (h : j < l.length) : txSs (l.take (j + 1)) d = txSs (l.take j) d ++ txS l[j] d := by
  induction l generalizing j with
  | nil => simp at h
  | cons x r ih =>
    cases j with
    | zero => simp [txSs]
    | succ j =>
      have := ih j (by simpa using h)
      rw [List.take_succ_cons, List.take_succ_cons, txSs, txSs, this]; simp
theorem txSs_le (l : List St) (d j : Nat) : (txSs (l.take j) d).length ≤ (txSs l d).length := by
  induction l generalizing j with
  | nil => simp
  | cons x r ih =>
    cases j with
    | zero => simp [txSs]
    | succ j => rw [List.take_succ_cons, txSs, txSs]; simp only [List.length_append]; have := ih j; omega
/-- A function's text. -/
def txF (f : Fu) : List UInt8 := lineB 0 ([102, 110, 32] ++ f.name.data.toList ++ [40] ++ comB (f.params.map paB) ++ [41, 32, 123]) ++ txSs f.body 1 ++ lineB 0 [125]
def txFs : List Fu → List UInt8
  | [] => []
  | f :: r => txF f ++ txFs r
theorem txFs_take (l : List Fu) (j : Nat) (h : j < l.length) : txFs (l.take (j + 1)) = txFs (l.take j) ++ txF l[j] := by
  induction l generalizing j with
  | nil => simp at h
  | cons x r ih =>
    cases j with
    | zero => simp [txFs]
    | succ j =>
      have := ih j (by simpa using h)
      rw [List.take_succ_cons, List.take_succ_cons, txFs, txFs, this]; simp
theorem txFs_le (l : List Fu) (j : Nat) : (txFs (l.take j)).length ≤ (txFs l).length := by
  induction l generalizing j with
  | nil => simp
  | cons x r ih =>
    cases j with
    | zero => simp [txFs]
    | succ j => rw [List.take_succ_cons, txFs, txFs]; simp only [List.length_append]; have := ih j; omega
def txW (l : List Int) : List UInt8 := if l.length = 0 then [] else lineB 0 ([119, 105, 100, 101, 110, 32] ++ comB (l.map Lib.itoa) ++ [59])
/-- A program's text. -/
def txP (p : Pr) : List UInt8 := txW p.widen ++ txFs p.funcs
end Go.Proofs.YtbpemackmadhgaaGreatDoor

/- A page's body of statements; a return. -/
namespace Go.Proofs.YtbpemackmadhgaaGreatDoor
open Go.RowKit Go.Sort

/-- line at pieces that have just been laid. -/
theorem line_new (B b : Nat) (l : List UInt8) (d : Nat) (xs : List ByteArray) (W : World) (h : PgT B b l d W) (hB : B ≤ W.heap.size) (hn : xs.length ≤ 1000) (hd : d ≤ 100) (hlen : (l ++ lineB d (cat xs)).length ≤ 140737488355328) :
    Calls Tryz.prog 35 #[.pointer (some ⟨b, 0, none⟩), .slice (some ⟨W.heap.size, 0, none⟩) xs.length xs.length] (W.alloc (.cells (xs.map Value.string).toArray 9)) fun e w' => e = .returned (.tuple #[]) ∧ PgT B b (l ++ lineB d (cat xs)) d w' ∧ Below B (W.alloc (.cells (xs.map Value.string).toArray 9)) w' ∧ Oth b (W.alloc (.cells (xs.map Value.string).toArray 9)) w' := by
  have hlt : b < W.heap.size := by obtain ⟨p, h1⟩ := h.some; exact h1.lt
  have hb := (Below.refl _ W).alloc (Nat.le_refl _) (.cells (xs.map Value.string).toArray 9)
  refine line_any B b l d xs W.heap.size xs.length _ (h.stay hb) (by simp; omega) ⟨_, _, heap_alloc_new W _, fun j x hj => by simp [hj]⟩ (by omega) hn hd hlen

/-- What page.stmt does at a statement, in every world behind w0. -/
abbrev StmtD (w0 : World) (D : Nat) (s : St) : Prop := ∀ (b : Nat) (l : List UInt8) (d : Nat) (w : World), Below w0.heap.size w0 w → PgT w0.heap.size b l d w → d ≤ D → (l ++ txS s d).length ≤ 140737488355328 →
  Calls Tryz.prog 62 #[.pointer (some ⟨b, 0, none⟩), s.val] w fun e w' => e = .returned (.tuple #[]) ∧ PgT w0.heap.size b (l ++ txS s d) d w' ∧ Below w0.heap.size w w' ∧ Oth b w w'

/-- .. in at most 60 bodies. -/
abbrev StmtPr (w0 : World) (s : St) : Prop := StmtD w0 90 s

theorem stmtD_le {w0 : World} {D D' : Nat} {s : St} (h : StmtD w0 D s) (hD : D' ≤ D) : StmtD w0 D' s := fun b l d w h1 h2 h3 h4 => h b l d w h1 h2 (Nat.le_trans h3 hD) h4
theorem box_oth {W W' : World} {b B1 : Nat} {cs : Array Value} (h : W.heap[B1]? = some (.cells cs 43 (0, 0))) (hb : B1 ≠ b) (ho : Oth b W W') : W'.heap[B1]? = some (.cells cs 43 (0, 0)) :=
  ho B1 _ h (by simpa using hb) (fun c fz e => by cases e)

set_option maxRecDepth 100000 in
set_option maxHeartbeats 8000000 in
theorem bodyD (w0 : World) (D : Nat) (b : Nat) (l : List UInt8) (d : Nat) (list : List St) (a : Option Addr) (c : Nat) (w : World) (hB : Below w0.heap.size w0 w) (hp : PgT w0.heap.size b l d w) (hd : d + 1 ≤ D) (hd6 : d ≤ 95) (hin : Have w0 a c list) (hs : ∀ s ∈ list, StmtD w0 D s) (hlen : (l ++ txSs list (d + 1)).length ≤ 140737488355328) :
    Calls Tryz.prog 41 #[.pointer (some ⟨b, 0, none⟩), .slice a list.length c] w fun e w' => e = .returned (.tuple #[]) ∧ PgT w0.heap.size b (l ++ txSs list (d + 1)) d w' ∧ Below w0.heap.size w w' ∧ Oth b w w' := by
  obtain ⟨⟨hl, hc, _, hrow⟩, hsub⟩ := hin
  have HR : Hid (RowIn w0 a 14 (List.map St.cells list)) := hrow
  have HS : Hid (∀ s ∈ list, StmtD w0 D s) := hs
  have HB : Hid (Below w0.heap.size w0 w) := hB
  have HLEN : Hid (l.length + (txSs list (d + 1)).length ≤ 140737488355328) := by show _ ≤ _; simpa using hlen
  obtain ⟨p, h1⟩ := hp.some
  have hBb := h1.1
  have hblt := h1.lt
  have c2 : w.cell? ⟨b, 2, none⟩ = some (.int .i64 d) := by
    obtain ⟨ao, cp, hbk, _⟩ := h1.slice
    rw [Lib.cell_of_heap hbk]; rfl
  have q2 := h1.frozen 2
  have HP1 : Hid (PgT w0.heap.size b l (d + 1) (w.setCell ⟨b, 2, none⟩ (.int .i64 (d + 1)))) := by
    show Pg _ _ _ _ _
    rcases hp with h | h
    · exact .inl (h.deep _)
    · exact .inr (h.deep _)
  have HB1 : Hid (Below w0.heap.size w (w.setCell ⟨b, 2, none⟩ (.int .i64 (d + 1)))) := (Below.refl _ w).setCell (p := ⟨b, 2, none⟩) hBb _
  have HO1 : Hid (Oth b w (w.setCell ⟨b, 2, none⟩ (.int .i64 (d + 1)))) := (Lib.OthersKept.refl _ (some b) w).setCell ⟨b, 2, none⟩ rfl _
  clear hrow hsub hs hB hlen hp h1
  go_enter Tryz.func41, Tryz.ntmps41
  go_wp2_with fail
  go_loopw [15] (fun t15 wr => ∃ (j : Nat), j ≤ list.length ∧ t15 = .int .i64 j ∧ PgT w0.heap.size b (l ++ txSs (list.take j) (d + 1)) (d + 1) wr ∧ Below w0.heap.size w wr ∧ Oth b w wr) (fun t15 _ => list.length - (intOf t15).toNat)
  case atStart => exact ⟨0, Nat.zero_le _, rfl, by simpa [txSs] using HP1.out, HB1.out, HO1.out⟩
  case round =>
    obtain ⟨j, hj, rfl, hpg, hb, ho⟩ := hrel
    have HPG : Hid (PgT w0.heap.size b (l ++ txSs (list.take j) (d + 1)) (d + 1) wr) := hpg
    clear hpg c2 q2 HP1 HB1 HO1
    have hws := hb.size
    have hws0 := HB.out.size
    have hb0 : Below w0.heap.size w0 wr := HB.out.trans hb
    by_cases hlt : j < list.length
    · obtain ⟨rb, o, rfl, hcell⟩ := rowS_at (HR.out.below hb0) hlt
      have c0 := hcell 0 _ rfl
      have c1 := hcell 1 _ rfl
      have c2 := hcell 2 _ rfl
      have c3 := hcell 3 _ rfl
      have c4 := hcell 4 _ rfl
      have c5 := hcell 5 _ rfl
      have c6 := hcell 6 _ rfl
      have c7 := hcell 7 _ rfl
      have c8 := hcell 8 _ rfl
      have c9 := hcell 9 _ rfl
      have c10 := hcell 10 _ rfl
      have c11 := hcell 11 _ rfl
      have c12 := hcell 12 _ rfl
      have c13 := hcell 13 _ rfl
      simp only [← Nat.add_assoc, Nat.add_zero] at c0 c1 c2 c3 c4 c5 c6 c7 c8 c9 c10 c11 c12 c13
      clear hcell
      have hli : (j : Int) < (list.length : Int) := by omega
      have HT : Hid (txSs (list.take (j + 1)) (d + 1) = txSs (list.take j) (d + 1) ++ txS list[j] (d + 1)) := txSs_take list (d + 1) j hlt
      have HLE : Hid ((txSs (list.take (j + 1)) (d + 1)).length ≤ (txSs list (d + 1)).length) := txSs_le list (d + 1) (j + 1)
      have HST : Hid (StmtD w0 D list[j]) := HS.out list[j] (List.getElem_mem hlt)
      generalize list[j] = s at *
      have hb1 := (Below.refl _ wr).alloc (Nat.le_refl _) (.cells #[.int .i64 s.kind, .string s.name, .int .i64 s.n, .int .i64 s.a.kind, .int .i64 s.a.n, .string s.a.name, .slice s.a.a s.a.args.length s.a.cap, .int .i64 s.b.kind, .int .i64 s.b.n, .string s.b.name, .slice s.b.a s.b.args.length s.b.cap, .slice s.ba s.body.length s.bc, .slice s.ea s.els.length s.ec, .slice s.ca s.cases.length s.cc] 43)
      have HPG1 := HPG.out.stay hb1
      have HO1 : Oth b wr _ := oth_below hb1
      have hb2 : Below w0.heap.size w _ := hb.alloc (by omega) (.cells #[.int .i64 s.kind, .string s.name, .int .i64 s.n, .int .i64 s.a.kind, .int .i64 s.a.n, .string s.a.name, .slice s.a.a s.a.args.length s.a.cap, .int .i64 s.b.kind, .int .i64 s.b.n, .string s.b.name, .slice s.b.a s.b.args.length s.b.cap, .slice s.ba s.body.length s.bc, .slice s.ea s.els.length s.ec, .slice s.ca s.cases.length s.cc] 43)
      go_wp2_with fail
      refine (HST.out b _ (d + 1) _ (HB.out.trans hb2) HPG1 (by omega) (by have := HLE.out; have := HLEN.out; rw [HT.out] at *; simp only [List.length_append] at *; omega)).mono ?_
      rintro e w1 ⟨rfl, hp1, hbs, hos⟩
      have HPG2 : Hid (PgT w0.heap.size b (l ++ txSs (list.take (j + 1)) (d + 1)) (d + 1) w1) := by
        show PgT _ _ _ _ _; rw [HT.out, ← List.append_assoc]; exact hp1
      clear hp1 HPG1
      go_wp2_with fail
      go_roundw
      case rel => exact ⟨j + 1, by omega, by go_num, HPG2.out, hb2.trans hbs, (ho.trans HO1).trans hos⟩
      case measure => simp [intOf]; omega
    · obtain rfl : j = list.length := by omega
      have HPG3 : Hid (PgT w0.heap.size b (l ++ txSs list (d + 1)) (d + 1) wr) := by
        show PgT _ _ _ _ _; have := HPG.out; rwa [List.take_length] at this
      obtain ⟨p, h1⟩ := HPG3.out.some
      have c2 : wr.cell? ⟨b, 2, none⟩ = some (.int .i64 ((d + 1 : Nat) : Int)) := by
        obtain ⟨ao, cp, hbk, _⟩ := h1.slice
        rw [Lib.cell_of_heap hbk]; rfl
      have q2 := h1.frozen 2
      have HP4 : Hid (PgT w0.heap.size b (l ++ txSs list (d + 1)) d (wr.setCell ⟨b, 2, none⟩ (.int .i64 d))) := by
        show Pg _ _ _ _ _
        rcases HPG3.out with h | h
        · exact .inl (h.deep _)
        · exact .inr (h.deep _)
      clear h1
      go_wp2_with fail
      go_end0
      exact ⟨rfl, HP4.out, hb.setCell (p := ⟨b, 2, none⟩) hBb _, ho.setCell ⟨b, 2, none⟩ rfl _⟩

theorem body_any (w0 : World) (b : Nat) (l : List UInt8) (d : Nat) (list : List St) (a : Option Addr) (c : Nat) (w : World) (hB : Below w0.heap.size w0 w) (hp : PgT w0.heap.size b l d w) (hd : d ≤ 50) (hin : Have w0 a c list) (hs : ∀ s ∈ list, StmtPr w0 s) (hlen : (l ++ txSs list (d + 1)).length ≤ 140737488355328) :
    Calls Tryz.prog 41 #[.pointer (some ⟨b, 0, none⟩), .slice a list.length c] w fun e w' => e = .returned (.tuple #[]) ∧ PgT w0.heap.size b (l ++ txSs list (d + 1)) d w' ∧ Below w0.heap.size w w' ∧ Oth b w w' := bodyD w0 90 b l d list a c w hB hp (by omega) (by omega) hin hs hlen

set_option maxRecDepth 100000 in
set_option maxHeartbeats 8000000 in
theorem stmt9 (w0 : World) (s : St) (hk : s.kind = 9) (hin : s.In w0) (ht : Tabs w0) (hnt : NumT w0) (hok : OkE s.a) (hsz : s.a.sz ≤ 1000000) : StmtPr w0 s := by
  intro b l d w hB hp hd hlen
  have HT : Hid (lineB d (cat [⟨#[114, 101, 116, 117, 114, 110, 32]⟩, ⟨(txE s.a).toArray⟩, ⟨#[59]⟩]) = txS s d) := by
    show _ = _; cases s; simp only [St.kind] at hk; subst hk; simp [txS, cat, St.a]
  rw [← HT.out] at hlen ⊢
  have HLEN : Hid ((l ++ lineB d (cat [⟨#[114, 101, 116, 117, 114, 110, 32]⟩, ⟨(txE s.a).toArray⟩, ⟨#[59]⟩])).length ≤ 140737488355328) := hlen
  have HX : Hid (∀ w', Below w0.heap.size w0 w' → Calls Tryz.prog 88 #[.agg #[.int .i64 s.a.kind, .int .i64 s.a.n, .string s.a.name, .slice s.a.a s.a.args.length s.a.cap]] w' fun e w'' => e = .returned (sB (txE s.a)) ∧ Below w'.heap.size w' w'') := fun w' hb => expr_any s.a w' ((St.in_iff.1 hin).2.2.2.1.stay hb) (ht.stay hb) (hnt.stay hb) hok hsz
  have HP : Hid (PgT w0.heap.size b l d w) := hp
  have hsw := hB.size
  clear hin ht hnt hok hp hlen HT
  unfold St.val
  rw [hk]
  go_enter Tryz.func62, Tryz.ntmps62
  go_wp2_with fail
  have hb0 := (Below.refl _ w).alloc (Nat.le_refl _) (.cells #[.int .i64 9, .string s.name, .int .i64 s.n, .int .i64 s.a.kind, .int .i64 s.a.n, .string s.a.name, .slice s.a.a s.a.args.length s.a.cap, .int .i64 s.b.kind, .int .i64 s.b.n, .string s.b.name, .slice s.b.a s.b.args.length s.b.cap, .slice s.ba s.body.length s.bc, .slice s.ea s.els.length s.ec, .slice s.ca s.cases.length s.cc] 43)
  have hB0 : Below w0.heap.size w0 _ := hB.alloc hsw (.cells #[.int .i64 9, .string s.name, .int .i64 s.n, .int .i64 s.a.kind, .int .i64 s.a.n, .string s.a.name, .slice s.a.a s.a.args.length s.a.cap, .int .i64 s.b.kind, .int .i64 s.b.n, .string s.b.name, .slice s.b.a s.b.args.length s.b.cap, .slice s.ba s.body.length s.bc, .slice s.ea s.els.length s.ec, .slice s.ca s.cases.length s.cc] 43)
  refine (HX.out _ hB0).mono ?_
  rintro e w1 ⟨rfl, hb1⟩
  have hb2 := Below.on hb0 hb1
  go_wp2_with fail
  refine (line_new w0.heap.size b l d [⟨#[114, 101, 116, 117, 114, 110, 32]⟩, ⟨(txE s.a).toArray⟩, ⟨#[59]⟩] w1 (HP.out.stay hb2) (by have := hb2.size; omega) (Nat.le_of_ble_eq_true rfl) (by omega) HLEN.out).mono ?_
  rintro e w2 ⟨rfl, hp2, hb3, ho3⟩
  have HP2 : Hid (PgT w0.heap.size b (l ++ lineB d (cat [⟨#[114, 101, 116, 117, 114, 110, 32]⟩, ⟨(txE s.a).toArray⟩, ⟨#[59]⟩])) d w2) := hp2
  clear hp2
  go_wp2_with fail
  go_end0
  exact ⟨rfl, HP2.out, ((hb2.mono hsw).alloc (by have := hb2.size; omega) _).trans hb3, ((oth_below hb2).alloc _).trans ho3⟩
end Go.Proofs.YtbpemackmadhgaaGreatDoor

/- sameExpr at any depth. -/
namespace Go.Proofs.YtbpemackmadhgaaGreatDoor
open Go.RowKit

set_option maxRecDepth 100000 in
set_option maxHeartbeats 4000000 in
theorem sameExpr_step (k : Nat) (h2 : ∀ (l t : List Ex) (a a' : Option Addr) (c c' : Nat) (w : World), szL l ≤ k → HaveE w a c l → HaveE w a' c' t → Calls Tryz.prog 110 #[.slice a l.length c, .slice a' t.length c', .func (.func 96) #[] #[]] w fun e w' => e = .returned (.bool (samEs l t)) ∧ Below w.heap.size w w')
    (x y : Ex) (w : World) (hk : x.sz ≤ k + 1) (hx : x.In w) (hy : y.In w) : Calls Tryz.prog 96 #[x.val, y.val] w fun e w' => e = .returned (.bool (samE x y)) ∧ Below w.heap.size w w' := by
  have hb1 := ((Below.refl _ w).alloc (Nat.le_refl _) (.cells #[.int .i64 x.kind, .int .i64 x.n, .string x.name, .slice x.a x.args.length x.cap] 36)).alloc (by simp) (.cells #[.int .i64 y.kind, .int .i64 y.n, .string y.name, .slice y.a y.args.length y.cap] 36)
  have HQ : Hid (∀ w', Below w.heap.size w w' → Calls Tryz.prog 110 #[.slice x.a x.args.length x.cap, .slice y.a y.args.length y.cap, .func (.func 96) #[] #[]] w' fun e w'' => e = .returned (.bool (samEs x.args y.args)) ∧ Below w'.heap.size w' w'') := fun w' hb => h2 _ _ _ _ _ _ w' (by have := x.sz_args; omega) ((hx.stay hb).have) ((hy.stay hb).have)
  have HE : Hid (samE x y = (x.kind == y.kind && (x.n == y.n && (x.name.toList == y.name.toList && samEs x.args y.args)))) := samE_eq x y
  clear h2 hx hy
  generalize samE x y = res at HE ⊢
  generalize samEs x.args y.args = sub at HE HQ
  unfold Ex.val
  cases e1 : (x.kind == y.kind)
  · go_enter Tryz.func96, Tryz.ntmps96
    go_wp2_with fail
    go_ret
    exact ⟨ret_bool (by rw [HE.out, e1]; rfl), hb1⟩
  · cases e2 : (x.n == y.n)
    · go_enter Tryz.func96, Tryz.ntmps96
      go_wp2_with fail
      go_ret
      exact ⟨ret_bool (by rw [HE.out, e1, e2]; rfl), hb1⟩
    · cases e3 : (x.name.toList == y.name.toList)
      · go_enter Tryz.func96, Tryz.ntmps96
        go_wp2_with fail
        go_ret
        exact ⟨ret_bool (by rw [HE.out, e1, e2, e3]; rfl), hb1⟩
      · go_enter Tryz.func96, Tryz.ntmps96
        go_wp2_with fail
        refine (HQ.out _ hb1).mono ?_
        rintro e w' ⟨rfl, hb'⟩
        go_wp2_with fail
        go_ret
        exact ⟨ret_bool (by rw [HE.out, e1, e2, e3]; rfl), hb1.trans (hb'.mono hb1.size)⟩

theorem sameE_any (k : Nat) : (∀ (x y : Ex) (w : World), x.sz ≤ k → x.In w → y.In w → Calls Tryz.prog 96 #[x.val, y.val] w fun e w' => e = .returned (.bool (samE x y)) ∧ Below w.heap.size w w') := by
  induction k with
  | zero => intro x y w h; have := x.sz_args; omega
  | succ k ih => exact fun x y w hk hx hy => sameExpr_step k (fun l t a a' c c' w hk ha hb => eqE_step k ih l t a a' c c' w hk ha hb) x y w hk hx hy
theorem sameExpr_any (x y : Ex) (w : World) (hx : x.In w) (hy : y.In w) : Calls Tryz.prog 96 #[x.val, y.val] w fun e w' => e = .returned (.bool (samE x y)) ∧ Below w.heap.size w w' := sameE_any _ x y w (Nat.le_refl _) hx hy

mutual
def samS : St → St → Bool
  | .mk k s n a b _ _ l _ _ e _ _ c, y => k == y.kind && (s.toList == y.name.toList && (n == y.n && (samE a y.a && (samE b y.b && (samSs l y.body && (samSs e y.els && samCs c y.cases))))))
def samSs : List St → List St → Bool
  | [], [] => true
  | x :: r, y :: t => samS x y && samSs r t
  | [], _ :: _ => false
  | _ :: _, [] => false
def samC : Ca → Ca → Bool
  | .mk n _ _ l, y => n == y.n && samSs l y.body
def samCs : List Ca → List Ca → Bool
  | [], [] => true
  | x :: r, y :: t => samC x y && samCs r t
  | [], _ :: _ => false
  | _ :: _, [] => false
end
theorem samS_eq (x y : St) : samS x y = (x.kind == y.kind && (x.name.toList == y.name.toList && (x.n == y.n && (samE x.a y.a && (samE x.b y.b && (samSs x.body y.body && (samSs x.els y.els && samCs x.cases y.cases))))))) := by
  cases x; simp only [samS, St.kind, St.name, St.n, St.a, St.b, St.body, St.els, St.cases]
theorem samC_eq (x y : Ca) : samC x y = (x.n == y.n && samSs x.body y.body) := by cases x; simp only [samC, Ca.n, Ca.body]
theorem samSs_len : ∀ {l t : List St}, l.length ≠ t.length → samSs l t = false
  | [], [], h => by simp at h
  | [], _ :: _, _ => by simp [samSs]
  | _ :: _, [], _ => by simp [samSs]
  | x :: r, y :: t, h => by simp only [samSs]; rw [samSs_len (by simpa using h)]; simp
theorem samCs_len : ∀ {l t : List Ca}, l.length ≠ t.length → samCs l t = false
  | [], [], h => by simp at h
  | [], _ :: _, _ => by simp [samCs]
  | _ :: _, [], _ => by simp [samCs]
  | x :: r, y :: t, h => by simp only [samCs]; rw [samCs_len (by simpa using h)]; simp
theorem samSs_drop {l t : List St} {j : Nat} (h : j < l.length) (h' : j < t.length) : samSs (l.drop j) (t.drop j) = (samS l[j] t[j] && samSs (l.drop (j + 1)) (t.drop (j + 1))) := by
  rw [List.drop_eq_getElem_cons h, List.drop_eq_getElem_cons h', samSs]
theorem samCs_drop {l t : List Ca} {j : Nat} (h : j < l.length) (h' : j < t.length) : samCs (l.drop j) (t.drop j) = (samC l[j] t[j] && samCs (l.drop (j + 1)) (t.drop (j + 1))) := by
  rw [List.drop_eq_getElem_cons h, List.drop_eq_getElem_cons h', samCs]
def HaveC (W : World) (a : Option Addr) (c : Nat) (l : List Ca) : Prop := LiesC W a c l ∧ ∀ x ∈ l, x.In W
end Go.Proofs.YtbpemackmadhgaaGreatDoor

/- slices.EqualFunc at cases. -/
namespace Go.Proofs.YtbpemackmadhgaaGreatDoor
open Go.RowKit

theorem rowC_cells {W : World} {a : Option Addr} {l : List Ca} (h : RowIn W a 2 (l.map Ca.cells)) {i : Nat} (hi : i < l.length) :
    ∃ b o, a = some ⟨b, o, none⟩ ∧ ∀ j v, l[i].cells[j]? = some v → W.cell? ⟨b, o + (i * 2 + j), none⟩ = some v := h i l[i].cells (by simp [hi])
set_option maxRecDepth 100000 in
set_option maxHeartbeats 8000000 in
theorem eqC_step (k : Nat) (h1 : ∀ (x y : Ca) (w : World), x.sz ≤ k → x.In w → y.In w → Calls Tryz.prog 98 #[x.val, y.val] w fun e w' => e = .returned (.bool (samC x y)) ∧ Below w.heap.size w w')
    (l t : List Ca) (a a' : Option Addr) (c c' : Nat) (w : World) (hk : csz l ≤ k) (hin : HaveC w a c l) (hin' : HaveC w a' c' t) :
    Calls Tryz.prog 97 #[.slice a l.length c, .slice a' t.length c', .func (.func 98) #[] #[]] w fun e w' => e = .returned (.bool (samCs l t)) ∧ Below w.heap.size w w' := by
  have IH : Hid (∀ (x y : Ca) (w : World), x.sz ≤ k → x.In w → y.In w → Calls Tryz.prog 98 #[x.val, y.val] w fun e w' => e = .returned (.bool (samC x y)) ∧ Below w.heap.size w w') := h1
  have HA : Hid (HaveC w a c l) := hin
  have HB : Hid (HaveC w a' c' t) := hin'
  have hl := hin.1.1
  have hc := hin.1.2.1
  have hl' := hin'.1.1
  have hc' := hin'.1.2.1
  clear h1 hin hin'
  by_cases hle : l.length = t.length
  · have HL : Hid (l.length = t.length) := hle
    rw [← hle] at hl' ⊢
    clear hle
    go_enter Tryz.func97, Tryz.ntmps97
    go_wp2_with fail
    go_loopw [17] (fun t17 wr => ∃ (j : Nat), j ≤ l.length ∧ t17 = .int .i64 j ∧ samCs (l.drop j) (t.drop j) = samCs l t ∧ Below w.heap.size w wr) (fun t17 _ => l.length - (intOf t17).toNat)
    case atStart => exact ⟨0, Nat.zero_le _, rfl, rfl, Below.refl _ w⟩
    case round =>
      obtain ⟨j, hj, rfl, hcnt, hb⟩ := hrel
      have HC : Hid (samCs (l.drop j) (t.drop j) = samCs l t) := hcnt
      clear hcnt
      have hws := hb.size
      by_cases hlt : j < l.length
      · have hlt' : j < t.length := by have := HL.out; omega
        obtain ⟨b, o, rfl, hc1⟩ := rowC_cells (HA.out.1.2.2.2.below hb) hlt
        obtain ⟨b', o', rfl, hc2⟩ := rowC_cells (HB.out.1.2.2.2.below hb) hlt'
        have c0 := hc1 0 _ rfl
        have d0 := hc2 0 _ rfl
        have c1 := hc1 1 _ rfl
        have d1 := hc2 1 _ rfl
        simp only [← Nat.add_assoc, Nat.add_zero] at c0 d0 c1 d1
        clear hc1 hc2
        have hbl : b < wr.heap.size := lt_of_cell c0
        have hbl' : b' < wr.heap.size := lt_of_cell d0
        have hli : (j : Int) < (l.length : Int) := by omega
        have hsy := csz_mem (List.getElem_mem hlt)
        have HZ : Hid (l[j].sz ≤ k) := (by omega : l[j].sz ≤ k)
        clear hsy
        have HY : Hid (l[j].In w) := HA.out.2 l[j] (List.getElem_mem hlt)
        have HY' : Hid (t[j].In w) := HB.out.2 t[j] (List.getElem_mem hlt')
        have HD : Hid (samCs (l.drop j) (t.drop j) = (samC l[j] t[j] && samCs (l.drop (j + 1)) (t.drop (j + 1)))) := samCs_drop hlt hlt'
        generalize l[j] = x at *
        generalize t[j] = y at *
        have hb2 := (hb.alloc hws (.cells #[.int .i64 x.n, .slice x.ba x.body.length x.bc] 101)).alloc (by simp; omega) (.cells #[.int .i64 y.n, .slice y.ba y.body.length y.bc] 101)
        have hs2 := hb2.size
        go_wp2_with fail
        refine (IH.out x y _ HZ.out (HY.out.stay hb2) (HY'.out.stay hb2)).mono ?_
        rintro e w' ⟨rfl, hb'⟩
        have hb4 : Below w.heap.size w w' := hb2.trans (hb'.mono hs2)
        clear c0 d0 c1 d1
        cases ev : samC x y
        · rw [ev] at HD
          go_wp2_with fail
          go_ret
          exact ⟨ret_bool (by rw [← HC.out, HD.out]; rfl), hb4⟩
        · rw [ev] at HD
          go_wp2_with fail
          go_roundw
          case rel => exact ⟨j + 1, by omega, by go_num, by rw [← HC.out, HD.out]; rfl, hb4⟩
          case measure => simp [intOf]; omega
      · go_wp2_with fail
        go_ret
        refine ⟨ret_bool ?_, hb⟩
        rw [← HC.out, List.drop_eq_nil_of_le (by omega), List.drop_eq_nil_of_le (by have := HL.out; omega)]; simp [samCs]
  · have hne : ((l.length : Int) != (t.length : Int)) = true := by simp only [bne_iff_ne]; omega
    go_enter Tryz.func97, Tryz.ntmps97
    go_wp2_with fail
    go_ret
    exact ⟨ret_bool (by rw [samCs_len hle]), Below.refl _ w⟩
end Go.Proofs.YtbpemackmadhgaaGreatDoor

/- slices.EqualFunc at statements. -/
namespace Go.Proofs.YtbpemackmadhgaaGreatDoor
open Go.RowKit

set_option maxRecDepth 100000 in
set_option maxHeartbeats 8000000 in
theorem eqS_step (k : Nat) (h1 : ∀ (x y : St) (w : World), x.sz ≤ k → x.In w → y.In w → Calls Tryz.prog 68 #[x.val, y.val] w fun e w' => e = .returned (.bool (samS x y)) ∧ Below w.heap.size w w')
    (l t : List St) (a a' : Option Addr) (c c' : Nat) (w : World) (hk : ssz l ≤ k) (hin : Have w a c l) (hin' : Have w a' c' t) :
    Calls Tryz.prog 67 #[.slice a l.length c, .slice a' t.length c', .func (.func 68) #[] #[]] w fun e w' => e = .returned (.bool (samSs l t)) ∧ Below w.heap.size w w' := by
  have IH : Hid (∀ (x y : St) (w : World), x.sz ≤ k → x.In w → y.In w → Calls Tryz.prog 68 #[x.val, y.val] w fun e w' => e = .returned (.bool (samS x y)) ∧ Below w.heap.size w w') := h1
  have HA : Hid (Have w a c l) := hin
  have HB : Hid (Have w a' c' t) := hin'
  have hl := hin.1.1
  have hc := hin.1.2.1
  have hl' := hin'.1.1
  have hc' := hin'.1.2.1
  clear h1 hin hin'
  by_cases hle : l.length = t.length
  · have HL : Hid (l.length = t.length) := hle
    rw [← hle] at hl' ⊢
    clear hle
    go_enter Tryz.func67, Tryz.ntmps67
    go_wp2_with fail
    go_loopw [17] (fun t17 wr => ∃ (j : Nat), j ≤ l.length ∧ t17 = .int .i64 j ∧ samSs (l.drop j) (t.drop j) = samSs l t ∧ Below w.heap.size w wr) (fun t17 _ => l.length - (intOf t17).toNat)
    case atStart => exact ⟨0, Nat.zero_le _, rfl, rfl, Below.refl _ w⟩
    case round =>
      obtain ⟨j, hj, rfl, hcnt, hb⟩ := hrel
      have HC : Hid (samSs (l.drop j) (t.drop j) = samSs l t) := hcnt
      clear hcnt
      have hws := hb.size
      by_cases hlt : j < l.length
      · have hlt' : j < t.length := by have := HL.out; omega
        obtain ⟨b, o, rfl, hc1⟩ := rowS_at (HA.out.1.2.2.2.below hb) hlt
        obtain ⟨b', o', rfl, hc2⟩ := rowS_at (HB.out.1.2.2.2.below hb) hlt'
        have c0 := hc1 0 _ rfl
        have d0 := hc2 0 _ rfl
        have c1 := hc1 1 _ rfl
        have d1 := hc2 1 _ rfl
        have c2 := hc1 2 _ rfl
        have d2 := hc2 2 _ rfl
        have c3 := hc1 3 _ rfl
        have d3 := hc2 3 _ rfl
        have c4 := hc1 4 _ rfl
        have d4 := hc2 4 _ rfl
        have c5 := hc1 5 _ rfl
        have d5 := hc2 5 _ rfl
        have c6 := hc1 6 _ rfl
        have d6 := hc2 6 _ rfl
        have c7 := hc1 7 _ rfl
        have d7 := hc2 7 _ rfl
        have c8 := hc1 8 _ rfl
        have d8 := hc2 8 _ rfl
        have c9 := hc1 9 _ rfl
        have d9 := hc2 9 _ rfl
        have c10 := hc1 10 _ rfl
        have d10 := hc2 10 _ rfl
        have c11 := hc1 11 _ rfl
        have d11 := hc2 11 _ rfl
        have c12 := hc1 12 _ rfl
        have d12 := hc2 12 _ rfl
        have c13 := hc1 13 _ rfl
        have d13 := hc2 13 _ rfl
        simp only [← Nat.add_assoc, Nat.add_zero] at c0 d0 c1 d1 c2 d2 c3 d3 c4 d4 c5 d5 c6 d6 c7 d7 c8 d8 c9 d9 c10 d10 c11 d11 c12 d12 c13 d13
        clear hc1 hc2
        have hbl : b < wr.heap.size := lt_of_cell c0
        have hbl' : b' < wr.heap.size := lt_of_cell d0
        have hli : (j : Int) < (l.length : Int) := by omega
        have hsy := ssz_mem (List.getElem_mem hlt)
        have HZ : Hid (l[j].sz ≤ k) := (by omega : l[j].sz ≤ k)
        clear hsy
        have HY : Hid (l[j].In w) := HA.out.2 l[j] (List.getElem_mem hlt)
        have HY' : Hid (t[j].In w) := HB.out.2 t[j] (List.getElem_mem hlt')
        have HD : Hid (samSs (l.drop j) (t.drop j) = (samS l[j] t[j] && samSs (l.drop (j + 1)) (t.drop (j + 1)))) := samSs_drop hlt hlt'
        generalize l[j] = x at *
        generalize t[j] = y at *
        have hb2 := (hb.alloc hws (.cells #[.int .i64 x.kind, .string x.name, .int .i64 x.n, .int .i64 x.a.kind, .int .i64 x.a.n, .string x.a.name, .slice x.a.a x.a.args.length x.a.cap, .int .i64 x.b.kind, .int .i64 x.b.n, .string x.b.name, .slice x.b.a x.b.args.length x.b.cap, .slice x.ba x.body.length x.bc, .slice x.ea x.els.length x.ec, .slice x.ca x.cases.length x.cc] 43)).alloc (by simp; omega) (.cells #[.int .i64 y.kind, .string y.name, .int .i64 y.n, .int .i64 y.a.kind, .int .i64 y.a.n, .string y.a.name, .slice y.a.a y.a.args.length y.a.cap, .int .i64 y.b.kind, .int .i64 y.b.n, .string y.b.name, .slice y.b.a y.b.args.length y.b.cap, .slice y.ba y.body.length y.bc, .slice y.ea y.els.length y.ec, .slice y.ca y.cases.length y.cc] 43)
        have hs2 := hb2.size
        go_wp2_with fail
        refine (IH.out x y _ HZ.out (HY.out.stay hb2) (HY'.out.stay hb2)).mono ?_
        rintro e w' ⟨rfl, hb'⟩
        have hb4 : Below w.heap.size w w' := hb2.trans (hb'.mono hs2)
        clear c0 d0 c1 d1 c2 d2 c3 d3 c4 d4 c5 d5 c6 d6 c7 d7 c8 d8 c9 d9 c10 d10 c11 d11 c12 d12 c13 d13
        cases ev : samS x y
        · rw [ev] at HD
          go_wp2_with fail
          go_ret
          exact ⟨ret_bool (by rw [← HC.out, HD.out]; rfl), hb4⟩
        · rw [ev] at HD
          go_wp2_with fail
          go_roundw
          case rel => exact ⟨j + 1, by omega, by go_num, by rw [← HC.out, HD.out]; rfl, hb4⟩
          case measure => simp [intOf]; omega
      · go_wp2_with fail
        go_ret
        refine ⟨ret_bool ?_, hb⟩
        rw [← HC.out, List.drop_eq_nil_of_le (by omega), List.drop_eq_nil_of_le (by have := HL.out; omega)]; simp [samSs]
  · have hne : ((l.length : Int) != (t.length : Int)) = true := by simp only [bne_iff_ne]; omega
    go_enter Tryz.func67, Tryz.ntmps67
    go_wp2_with fail
    go_ret
    exact ⟨ret_bool (by rw [samSs_len hle]), Below.refl _ w⟩
end Go.Proofs.YtbpemackmadhgaaGreatDoor

/- sameCase, sameStmts and sameStmt at any depth. -/
namespace Go.Proofs.YtbpemackmadhgaaGreatDoor
open Go.RowKit

/-- Two new blocks hold two statements' cells, in every world behind. -/
theorem boxes {w w1 : World} {x y : St} (hb : Below ((w.alloc (.cells #[.int .i64 x.kind, .string x.name, .int .i64 x.n, .int .i64 x.a.kind, .int .i64 x.a.n, .string x.a.name, .slice x.a.a x.a.args.length x.a.cap, .int .i64 x.b.kind, .int .i64 x.b.n, .string x.b.name, .slice x.b.a x.b.args.length x.b.cap, .slice x.ba x.body.length x.bc, .slice x.ea x.els.length x.ec, .slice x.ca x.cases.length x.cc] 43)).alloc (.cells #[.int .i64 y.kind, .string y.name, .int .i64 y.n, .int .i64 y.a.kind, .int .i64 y.a.n, .string y.a.name, .slice y.a.a y.a.args.length y.a.cap, .int .i64 y.b.kind, .int .i64 y.b.n, .string y.b.name, .slice y.b.a y.b.args.length y.b.cap, .slice y.ba y.body.length y.bc, .slice y.ea y.els.length y.ec, .slice y.ca y.cases.length y.cc] 43)).heap.size ((w.alloc (.cells #[.int .i64 x.kind, .string x.name, .int .i64 x.n, .int .i64 x.a.kind, .int .i64 x.a.n, .string x.a.name, .slice x.a.a x.a.args.length x.a.cap, .int .i64 x.b.kind, .int .i64 x.b.n, .string x.b.name, .slice x.b.a x.b.args.length x.b.cap, .slice x.ba x.body.length x.bc, .slice x.ea x.els.length x.ec, .slice x.ca x.cases.length x.cc] 43)).alloc (.cells #[.int .i64 y.kind, .string y.name, .int .i64 y.n, .int .i64 y.a.kind, .int .i64 y.a.n, .string y.a.name, .slice y.a.a y.a.args.length y.a.cap, .int .i64 y.b.kind, .int .i64 y.b.n, .string y.b.name, .slice y.b.a y.b.args.length y.b.cap, .slice y.ba y.body.length y.bc, .slice y.ea y.els.length y.ec, .slice y.ca y.cases.length y.cc] 43)) w1) : BoxS w1 w.heap.size x ∧ BoxS w1 (w.heap.size + 1) y := by
  obtain ⟨h1, h2, _⟩ := two_cells hb
  exact ⟨fun i v h => h1 i v (by simpa [St.cells] using h), fun i v h => h2 i v (by simpa [St.cells] using h)⟩

abbrev StmtOk (k : Nat) : Prop := ∀ (x y : St) (w : World), x.sz ≤ k → x.In w → y.In w → Calls Tryz.prog 68 #[x.val, y.val] w fun e w' => e = .returned (.bool (samS x y)) ∧ Below w.heap.size w w'
abbrev StmtsOk (k : Nat) : Prop := ∀ (l t : List St) (a a' : Option Addr) (c c' : Nat) (w : World), ssz l ≤ k → Have w a c l → Have w a' c' t → Calls Tryz.prog 45 #[.slice a l.length c, .slice a' t.length c'] w fun e w' => e = .returned (.bool (samSs l t)) ∧ Below w.heap.size w w'
abbrev CaseOk (k : Nat) : Prop := ∀ (x y : Ca) (w : World), x.sz ≤ k → x.In w → y.In w → Calls Tryz.prog 98 #[x.val, y.val] w fun e w' => e = .returned (.bool (samC x y)) ∧ Below w.heap.size w w'
abbrev CasesOk (k : Nat) : Prop := ∀ (l t : List Ca) (a a' : Option Addr) (c c' : Nat) (w : World), csz l ≤ k → HaveC w a c l → HaveC w a' c' t → Calls Tryz.prog 97 #[.slice a l.length c, .slice a' t.length c', .func (.func 98) #[] #[]] w fun e w' => e = .returned (.bool (samCs l t)) ∧ Below w.heap.size w w'

set_option maxHeartbeats 1000000 in
theorem sameStmts_step (k : Nat) (h1 : StmtOk k) : StmtsOk k := by
  intro l t a a' c c' w hk ha hb
  have HQ : Hid (Calls Tryz.prog 67 #[.slice a l.length c, .slice a' t.length c', .func (.func 68) #[] #[]] w fun e w' => e = .returned (.bool (samSs l t)) ∧ Below w.heap.size w w') := eqS_step k h1 l t a a' c c' w hk ha hb
  clear h1 ha hb
  go_enter Tryz.func45, Tryz.ntmps45
  go_wp2_with fail
  refine HQ.out.mono ?_
  rintro e w' ⟨rfl, hb'⟩
  go_wp2_with fail
  go_ret
  exact ⟨rfl, hb'⟩

set_option maxRecDepth 100000 in
set_option maxHeartbeats 4000000 in
theorem sameCase_step (k : Nat) (h2 : StmtsOk k) : CaseOk (k + 1) := by
  intro x y w hk hx hy
  have hb1 := ((Below.refl _ w).alloc (Nat.le_refl _) (.cells #[.int .i64 x.n, .slice x.ba x.body.length x.bc] 101)).alloc (by simp) (.cells #[.int .i64 y.n, .slice y.ba y.body.length y.bc] 101)
  have HQ : Hid (∀ w', Below w.heap.size w w' → Calls Tryz.prog 45 #[.slice x.ba x.body.length x.bc, .slice y.ba y.body.length y.bc] w' fun e w'' => e = .returned (.bool (samSs x.body y.body)) ∧ Below w'.heap.size w' w'') := fun w' hb => h2 _ _ _ _ _ _ w' (by have := x.sz_eq; omega) ((Ca.in_iff.1 hx).2.stay hb) ((Ca.in_iff.1 hy).2.stay hb)
  have HE : Hid (samC x y = (x.n == y.n && samSs x.body y.body)) := samC_eq x y
  clear h2 hx hy
  generalize samC x y = res at HE ⊢
  generalize samSs x.body y.body = sub at HE HQ
  unfold Ca.val
  cases e1 : (x.n == y.n)
  · go_enter Tryz.func98, Tryz.ntmps98
    go_wp2_with fail
    go_ret
    exact ⟨ret_bool (by rw [HE.out, e1]; rfl), hb1⟩
  · go_enter Tryz.func98, Tryz.ntmps98
    go_wp2_with fail
    refine (HQ.out _ hb1).mono ?_
    rintro e w' ⟨rfl, hb'⟩
    go_wp2_with fail
    go_ret
    exact ⟨ret_bool (by rw [HE.out, e1]; rfl), hb1.trans (hb'.mono hb1.size)⟩

set_option maxRecDepth 100000 in
set_option maxHeartbeats 8000000 in
theorem sameStmt_step (k : Nat) (h2 : StmtsOk k) (h4 : CasesOk k) : StmtOk (k + 1) := by
  intro x y w hk hx hy
  have hsz := x.sz_eq
  obtain ⟨_, _, _, xa, xb, xl, xe, xc, xs⟩ := St.in_iff.1 hx
  obtain ⟨_, _, _, ya, yb, yl, ye, yc, ys⟩ := St.in_iff.1 hy
  have hb1 := ((Below.refl _ w).alloc (Nat.le_refl _) (.cells #[.int .i64 x.kind, .string x.name, .int .i64 x.n, .int .i64 x.a.kind, .int .i64 x.a.n, .string x.a.name, .slice x.a.a x.a.args.length x.a.cap, .int .i64 x.b.kind, .int .i64 x.b.n, .string x.b.name, .slice x.b.a x.b.args.length x.b.cap, .slice x.ba x.body.length x.bc, .slice x.ea x.els.length x.ec, .slice x.ca x.cases.length x.cc] 43)).alloc (by simp) (.cells #[.int .i64 y.kind, .string y.name, .int .i64 y.n, .int .i64 y.a.kind, .int .i64 y.a.n, .string y.a.name, .slice y.a.a y.a.args.length y.a.cap, .int .i64 y.b.kind, .int .i64 y.b.n, .string y.b.name, .slice y.b.a y.b.args.length y.b.cap, .slice y.ba y.body.length y.bc, .slice y.ea y.els.length y.ec, .slice y.ca y.cases.length y.cc] 43)
  have HA : Hid (∀ w', Below w.heap.size w w' → Calls Tryz.prog 96 #[x.a.val, y.a.val] w' fun e w'' => e = .returned (.bool (samE x.a y.a)) ∧ Below w'.heap.size w' w'') := fun w' hb => sameExpr_any _ _ w' (xa.stay hb) (ya.stay hb)
  have HB : Hid (∀ w', Below w.heap.size w w' → Calls Tryz.prog 96 #[x.b.val, y.b.val] w' fun e w'' => e = .returned (.bool (samE x.b y.b)) ∧ Below w'.heap.size w' w'') := fun w' hb => sameExpr_any _ _ w' (xb.stay hb) (yb.stay hb)
  have HL : Hid (∀ w', Below w.heap.size w w' → Calls Tryz.prog 45 #[.slice x.ba x.body.length x.bc, .slice y.ba y.body.length y.bc] w' fun e w'' => e = .returned (.bool (samSs x.body y.body)) ∧ Below w'.heap.size w' w'') := fun w' hb => h2 _ _ _ _ _ _ w' (by omega) (xl.stay hb) (yl.stay hb)
  have HM : Hid (∀ w', Below w.heap.size w w' → Calls Tryz.prog 45 #[.slice x.ea x.els.length x.ec, .slice y.ea y.els.length y.ec] w' fun e w'' => e = .returned (.bool (samSs x.els y.els)) ∧ Below w'.heap.size w' w'') := fun w' hb => h2 _ _ _ _ _ _ w' (by omega) (xe.stay hb) (ye.stay hb)
  have HC : Hid (∀ w', Below w.heap.size w w' → Calls Tryz.prog 97 #[.slice x.ca x.cases.length x.cc, .slice y.ca y.cases.length y.cc, .func (.func 98) #[] #[]] w' fun e w'' => e = .returned (.bool (samCs x.cases y.cases)) ∧ Below w'.heap.size w' w'') := fun w' hb => h4 _ _ _ _ _ _ w' (by omega) ⟨xc.below hb, fun z hz => (xs z hz).stay hb⟩ ⟨yc.below hb, fun z hz => (ys z hz).stay hb⟩
  have HE : Hid (samS x y = (x.kind == y.kind && (x.name.toList == y.name.toList && (x.n == y.n && (samE x.a y.a && (samE x.b y.b && (samSs x.body y.body && (samSs x.els y.els && samCs x.cases y.cases)))))))) := samS_eq x y
  clear h2 h4 hx hy xa xb xl xe xc xs ya yb yl ye yc ys hsz hk
  generalize samS x y = res at HE ⊢
  generalize samE x.a y.a = ra at HE HA
  generalize samE x.b y.b = rb at HE HB
  generalize samSs x.body y.body = rl at HE HL
  generalize samSs x.els y.els = re at HE HM
  generalize samCs x.cases y.cases = rc at HE HC
  unfold Ex.val at HA HB
  unfold St.val
  cases e1 : (x.kind == y.kind)
  · go_enter Tryz.func68, Tryz.ntmps68
    go_wp2_with fail
    go_ret
    exact ⟨ret_bool (by rw [HE.out, e1]; rfl), hb1⟩
  cases e2 : (x.name.toList == y.name.toList)
  · go_enter Tryz.func68, Tryz.ntmps68
    go_wp2_with fail
    go_ret
    exact ⟨ret_bool (by rw [HE.out, e1, e2]; rfl), hb1⟩
  cases e3 : (x.n == y.n)
  · go_enter Tryz.func68, Tryz.ntmps68
    go_wp2_with fail
    go_ret
    exact ⟨ret_bool (by rw [HE.out, e1, e2, e3]; rfl), hb1⟩
  have HE2 : Hid (res = (ra && (rb && (rl && (re && rc))))) := (by rw [HE.out, e1, e2, e3]; rfl : res = _)
  clear HE
  go_enter Tryz.func68, Tryz.ntmps68
  go_wp2_with fail
  refine (HA.out _ hb1).mono ?_
  rintro e w1 ⟨rfl, k0⟩
  obtain ⟨X0, Y0⟩ := boxes k0
  have g0 : Below w.heap.size w w1 := hb1.trans (k0.mono hb1.size)
  have hs1 : w.heap.size + 1 < w1.heap.size := by have := k0.size; simp at this; omega
  have XH0 : Hid (BoxS w1 w.heap.size x) := X0
  have YH0 : Hid (BoxS w1 (w.heap.size + 1) y) := Y0
  clear X0 Y0 k0
  have c7 := XH0.out 7 _ rfl
  have d7 := YH0.out 7 _ rfl
  have c8 := XH0.out 8 _ rfl
  have d8 := YH0.out 8 _ rfl
  have c9 := XH0.out 9 _ rfl
  have d9 := YH0.out 9 _ rfl
  have c10 := XH0.out 10 _ rfl
  have d10 := YH0.out 10 _ rfl
  cases ra
  · go_wp2_with fail
    go_ret
    exact ⟨ret_bool (by rw [HE2.out]; rfl), g0⟩
  go_wp2_with fail
  refine (HB.out _ g0).mono ?_
  rintro e w2 ⟨rfl, k1⟩
  have X1 := XH0.out.below k1 (by omega)
  have Y1 := YH0.out.below k1 (by omega)
  have g1 : Below w.heap.size w w2 := g0.trans (k1.mono g0.size)
  have hs2 : w.heap.size + 1 < w2.heap.size := by have := k1.size; omega
  clear c7 d7 c8 d8 c9 d9 c10 d10
  have XH1 : Hid (BoxS w2 w.heap.size x) := X1
  have YH1 : Hid (BoxS w2 (w.heap.size + 1) y) := Y1
  clear X1 Y1 k1
  have c11 := XH1.out 11 _ rfl
  have d11 := YH1.out 11 _ rfl
  cases rb
  · go_wp2_with fail
    go_ret
    exact ⟨ret_bool (by rw [HE2.out]; rfl), g1⟩
  go_wp2_with fail
  refine (HL.out _ g1).mono ?_
  rintro e w3 ⟨rfl, k2⟩
  have X2 := XH1.out.below k2 (by omega)
  have Y2 := YH1.out.below k2 (by omega)
  have g2 : Below w.heap.size w w3 := g1.trans (k2.mono g1.size)
  have hs3 : w.heap.size + 1 < w3.heap.size := by have := k2.size; omega
  clear c11 d11
  have XH2 : Hid (BoxS w3 w.heap.size x) := X2
  have YH2 : Hid (BoxS w3 (w.heap.size + 1) y) := Y2
  clear X2 Y2 k2
  have c12 := XH2.out 12 _ rfl
  have d12 := YH2.out 12 _ rfl
  cases rl
  · go_wp2_with fail
    go_ret
    exact ⟨ret_bool (by rw [HE2.out]; rfl), g2⟩
  go_wp2_with fail
  refine (HM.out _ g2).mono ?_
  rintro e w4 ⟨rfl, k3⟩
  have X3 := XH2.out.below k3 (by omega)
  have Y3 := YH2.out.below k3 (by omega)
  have g3 : Below w.heap.size w w4 := g2.trans (k3.mono g2.size)
  have hs4 : w.heap.size + 1 < w4.heap.size := by have := k3.size; omega
  clear c12 d12
  have XH3 : Hid (BoxS w4 w.heap.size x) := X3
  have YH3 : Hid (BoxS w4 (w.heap.size + 1) y) := Y3
  clear X3 Y3 k3
  have c13 := XH3.out 13 _ rfl
  have d13 := YH3.out 13 _ rfl
  cases re
  · go_wp2_with fail
    go_ret
    exact ⟨ret_bool (by rw [HE2.out]; rfl), g3⟩
  go_wp2_with fail
  refine (HC.out _ g3).mono ?_
  rintro e w5 ⟨rfl, k4⟩
  have X4 := XH3.out.below k4 (by omega)
  have Y4 := YH3.out.below k4 (by omega)
  have g4 : Below w.heap.size w w5 := g3.trans (k4.mono g3.size)
  have hs5 : w.heap.size + 1 < w5.heap.size := by have := k4.size; omega
  clear c13 d13
  have XH4 : Hid (BoxS w5 w.heap.size x) := X4
  have YH4 : Hid (BoxS w5 (w.heap.size + 1) y) := Y4
  clear X4 Y4 k4
  go_wp2_with fail
  go_ret
  exact ⟨ret_bool (by rw [HE2.out]; rfl), g4⟩

theorem same_all (k : Nat) : StmtOk k ∧ CaseOk k := by
  induction k with
  | zero => exact ⟨fun x _ _ h => by have := x.sz_eq; omega, fun x _ _ h => by have := x.sz_eq; omega⟩
  | succ k ih =>
    have hS := sameStmts_step k ih.1
    exact ⟨sameStmt_step k hS (fun l t a a' c c' w hk ha hb => eqC_step k ih.2 l t a a' c c' w hk ha hb), sameCase_step k hS⟩
theorem sameStmts_any (l t : List St) (a a' : Option Addr) (c c' : Nat) (w : World) (ha : Have w a c l) (hb : Have w a' c' t) : Calls Tryz.prog 45 #[.slice a l.length c, .slice a' t.length c'] w fun e w' => e = .returned (.bool (samSs l t)) ∧ Below w.heap.size w w' :=
  sameStmts_step _ (same_all _).1 l t a a' c c' w (Nat.le_refl _) ha hb
end Go.Proofs.YtbpemackmadhgaaGreatDoor

/- slices.Equal at thresholds and at parameters; sameFn. -/
namespace Go.Proofs.YtbpemackmadhgaaGreatDoor
open Go.RowKit

def samI : List Int → List Int → Bool
  | [], [] => true
  | x :: r, y :: t => x == y && samI r t
  | [], _ :: _ => false
  | _ :: _, [] => false
theorem samI_len : ∀ {l t : List Int}, l.length ≠ t.length → samI l t = false
  | [], [], h => by simp at h
  | [], _ :: _, _ => by simp [samI]
  | _ :: _, [], _ => by simp [samI]
  | x :: r, y :: t, h => by simp only [samI]; rw [samI_len (by simpa using h)]; simp
theorem samI_drop {l t : List Int} {j : Nat} (h : j < l.length) (h' : j < t.length) : samI (l.drop j) (t.drop j) = (l[j] == t[j] && samI (l.drop (j + 1)) (t.drop (j + 1))) := by
  rw [List.drop_eq_getElem_cons h, List.drop_eq_getElem_cons h', samI]
def samP (x y : Pa) : Bool := x.name.toList == y.name.toList && (x.lo == y.lo && x.hi == y.hi)
def samPs : List Pa → List Pa → Bool
  | [], [] => true
  | x :: r, y :: t => samP x y && samPs r t
  | [], _ :: _ => false
  | _ :: _, [] => false
theorem samPs_len : ∀ {l t : List Pa}, l.length ≠ t.length → samPs l t = false
  | [], [], h => by simp at h
  | [], _ :: _, _ => by simp [samPs]
  | _ :: _, [], _ => by simp [samPs]
  | x :: r, y :: t, h => by simp only [samPs]; rw [samPs_len (by simpa using h)]; simp
theorem samPs_drop {l t : List Pa} {j : Nat} (h : j < l.length) (h' : j < t.length) : samPs (l.drop j) (t.drop j) = (samP l[j] t[j] && samPs (l.drop (j + 1)) (t.drop (j + 1))) := by
  rw [List.drop_eq_getElem_cons h, List.drop_eq_getElem_cons h', samPs]

set_option maxRecDepth 100000 in
set_option maxHeartbeats 4000000 in
theorem equalI_any (l t : List Int) (a a' : Option Addr) (c c' : Nat) (w : World) (hin : Thr w a c l) (hin' : Thr w a' c' t) :
    Calls Tryz.prog 25 #[.slice a l.length c, .slice a' t.length c'] w fun e w' => e = .returned (.bool (samI l t)) ∧ Below w.heap.size w w' := by
  have HA : Hid (Thr w a c l) := hin
  have HB : Hid (Thr w a' c' t) := hin'
  have hl := hin.1
  have hc := hin.2.1
  have hl' := hin'.1
  have hc' := hin'.2.1
  clear hin hin'
  by_cases hle : l.length = t.length
  · have HL : Hid (l.length = t.length) := hle
    rw [← hle] at hl' ⊢
    clear hle
    go_enter Tryz.func25, Tryz.ntmps25
    go_wp2_with fail
    go_loopw [13] (fun t13 wr => ∃ (j nq : Nat), j ≤ l.length ∧ t13 = .int .i64 j ∧ samI (l.drop j) (t.drop j) = samI l t ∧ wr = w.drewN nq) (fun t13 _ => l.length - (intOf t13).toNat)
    case atStart => exact ⟨0, 0, Nat.zero_le _, rfl, rfl, rfl⟩
    case round =>
      obtain ⟨j, nq, hj, rfl, hcnt, rfl⟩ := hrel
      have HC : Hid (samI (l.drop j) (t.drop j) = samI l t) := hcnt
      clear hcnt
      by_cases hlt : j < l.length
      · have hlt' : j < t.length := by have := HL.out; omega
        obtain ⟨b, o, rfl, c0⟩ := rowW_at HA.out.2.2 hlt
        obtain ⟨b', o', rfl, d0⟩ := rowW_at HB.out.2.2 hlt'
        have hli : (j : Int) < (l.length : Int) := by omega
        have HD : Hid (samI (l.drop j) (t.drop j) = (l[j] == t[j] && samI (l.drop (j + 1)) (t.drop (j + 1)))) := samI_drop hlt hlt'
        generalize l[j] = x at *
        generalize t[j] = y at *
        clear hlt'
        go_wp2_with fail
        go_quiet (fail)
        cases ev : (x == y)
        · have ev' : (x != y) = true := by simp [bne, ev]
          rw [ev] at HD
          go_wp2_with fail
          go_ret
          exact ⟨ret_bool (by rw [← HC.out, HD.out]; rfl), ((Below.refl _ w).drewN _).drewN _⟩
        · have ev' : (x != y) = false := by simp [bne, ev]
          rw [ev] at HD
          go_wp2_with fail
          go_roundw
          case rel => exact ⟨j + 1, _, by omega, by go_num, by rw [← HC.out, HD.out]; rfl, rfl⟩
          case measure => simp [intOf]; omega
      · go_wp2_with fail
        go_ret
        refine ⟨ret_bool ?_, (Below.refl _ w).drewN _⟩
        rw [← HC.out, List.drop_eq_nil_of_le (by omega), List.drop_eq_nil_of_le (by have := HL.out; omega)]; rfl
  · have hne : ((l.length : Int) != (t.length : Int)) = true := by simp only [bne_iff_ne]; omega
    go_enter Tryz.func25, Tryz.ntmps25
    go_wp2_with fail
    go_ret
    exact ⟨ret_bool (by rw [samI_len hle]), Below.refl _ w⟩

theorem equalIn_pa (x y : Pa) (w : World) : (Op.equalIn 10000 38 (.agg #[.string x.name, .int .i64 x.lo, .int .i64 x.hi]) (.agg #[.string y.name, .int .i64 y.lo, .int .i64 y.hi])).run Tryz.prog w = .ok (samP x y) w := by
  have u2 := Tryz.underlying2
  have a2 := Tryz.isAgg2
  have z2 := Tryz.sizeOf2
  have u9 := Tryz.underlying9
  have a9 := Tryz.isAgg9
  have z9 := Tryz.sizeOf9
  have hS : Tryz.prog.underlying 38 = some (.struct (Tryz.prog.fieldsOf 38)) := by kernel_rfl
  have hp : Tryz.prog.stoodInHeld 38 = false := by kernel_rfl
  rw [show (10000 : Nat) = 9999 + 1 from rfl, run_equalIn_agg w 9999 38 _ _ hS hp]
  simp only [Program.fieldsOf, Tryz.underlying38]
  go_simp
  unfold samP
  by_cases h1 : x.name.toList = y.name.toList <;> by_cases h2 : x.lo = y.lo <;> by_cases h3 : x.hi = y.hi <;> simp [h1, h2, h3]

def HaveP (W : World) (a : Option Addr) (c : Nat) (l : List Pa) : Prop := l.length ≤ c ∧ c * 32 ≤ 140737488351232 ∧ RowIn W a 3 (l.map Pa.cells)
set_option maxRecDepth 100000 in
set_option maxHeartbeats 4000000 in
theorem equalP_any (l t : List Pa) (a a' : Option Addr) (c c' : Nat) (w : World) (hin : HaveP w a c l) (hin' : HaveP w a' c' t) :
    Calls Tryz.prog 44 #[.slice a l.length c, .slice a' t.length c'] w fun e w' => e = .returned (.bool (samPs l t)) ∧ Below w.heap.size w w' := by
  have HA : Hid (HaveP w a c l) := hin
  have HB : Hid (HaveP w a' c' t) := hin'
  have hl := hin.1
  have hc := hin.2.1
  have hl' := hin'.1
  have hc' := hin'.2.1
  clear hin hin'
  by_cases hle : l.length = t.length
  · have HL : Hid (l.length = t.length) := hle
    rw [← hle] at hl' ⊢
    clear hle
    go_enter Tryz.func44, Tryz.ntmps44
    go_wp2_with fail
    go_loopw [13] (fun t13 wr => ∃ (j nq : Nat), j ≤ l.length ∧ t13 = .int .i64 j ∧ samPs (l.drop j) (t.drop j) = samPs l t ∧ wr = w.drewN nq) (fun t13 _ => l.length - (intOf t13).toNat)
    case atStart => exact ⟨0, 0, Nat.zero_le _, rfl, rfl, rfl⟩
    case round =>
      obtain ⟨j, nq, hj, rfl, hcnt, rfl⟩ := hrel
      have HC : Hid (samPs (l.drop j) (t.drop j) = samPs l t) := hcnt
      clear hcnt
      by_cases hlt : j < l.length
      · have hlt' : j < t.length := by have := HL.out; omega
        obtain ⟨b, o, rfl, c0, c1, c2⟩ := rowP_at HA.out.2.2 hlt
        obtain ⟨b', o', rfl, d0, d1, d2⟩ := rowP_at HB.out.2.2 hlt'
        have hli : (j : Int) < (l.length : Int) := by omega
        have HD : Hid (samPs (l.drop j) (t.drop j) = (samP l[j] t[j] && samPs (l.drop (j + 1)) (t.drop (j + 1)))) := samPs_drop hlt hlt'
        generalize l[j] = x at *
        generalize t[j] = y at *
        clear hlt'
        go_wp2_with fail
        have hq := fun w => equalIn_pa x y w
        have hg : ∀ (w : World) (op : BinOp) (a b : Operand) (xs ys : Array Value), (eqGuard op 38 a b (.agg xs) (.agg ys)).run Tryz.prog w = .ok () w := fun w op a b xs ys => run_eqGuard_agg w op 38 a b xs ys (by kernel_rfl)
        go_quiet (fail)
        clear hq hg
        cases ev : samP x y
        · rw [ev] at HD
          go_wp2_with fail
          go_ret
          exact ⟨ret_bool (by rw [← HC.out, HD.out]; rfl), ((Below.refl _ w).drewN _).drewN _⟩
        · rw [ev] at HD
          go_wp2_with fail
          go_roundw
          case rel => exact ⟨j + 1, _, by omega, by go_num, by rw [← HC.out, HD.out]; rfl, rfl⟩
          case measure => simp [intOf]; omega
      · go_wp2_with fail
        go_ret
        refine ⟨ret_bool ?_, (Below.refl _ w).drewN _⟩
        rw [← HC.out, List.drop_eq_nil_of_le (by omega), List.drop_eq_nil_of_le (by have := HL.out; omega)]; rfl
  · have hne : ((l.length : Int) != (t.length : Int)) = true := by simp only [bne_iff_ne]; omega
    go_enter Tryz.func44, Tryz.ntmps44
    go_wp2_with fail
    go_ret
    exact ⟨ret_bool (by rw [samPs_len hle]), Below.refl _ w⟩

def samF (x y : Fu) : Bool := x.name.toList == y.name.toList && (samPs x.params y.params && samSs x.body y.body)
def samFs : List Fu → List Fu → Bool
  | [], [] => true
  | x :: r, y :: t => samF x y && samFs r t
  | [], _ :: _ => false
  | _ :: _, [] => false
theorem samFs_len : ∀ {l t : List Fu}, l.length ≠ t.length → samFs l t = false
  | [], [], h => by simp at h
  | [], _ :: _, _ => by simp [samFs]
  | _ :: _, [], _ => by simp [samFs]
  | x :: r, y :: t, h => by simp only [samFs]; rw [samFs_len (by simpa using h)]; simp
theorem samFs_drop {l t : List Fu} {j : Nat} (h : j < l.length) (h' : j < t.length) : samFs (l.drop j) (t.drop j) = (samF l[j] t[j] && samFs (l.drop (j + 1)) (t.drop (j + 1))) := by
  rw [List.drop_eq_getElem_cons h, List.drop_eq_getElem_cons h', samFs]

set_option maxRecDepth 100000 in
set_option maxHeartbeats 4000000 in
theorem sameFn_any (x y : Fu) (w : World) (hx : x.In w) (hy : y.In w) : Calls Tryz.prog 27 #[x.val, y.val] w fun e w' => e = .returned (.bool (samF x y)) ∧ Below w.heap.size w w' := by
  have hb1 := ((Below.refl _ w).alloc (Nat.le_refl _) (.cells #[.string x.name, .slice x.pa x.params.length x.pc, .slice x.ba x.body.length x.bc] 45)).alloc (by simp) (.cells #[.string y.name, .slice y.pa y.params.length y.pc, .slice y.ba y.body.length y.bc] 45)
  have HP : Hid (∀ w', Below w.heap.size w w' → Calls Tryz.prog 44 #[.slice x.pa x.params.length x.pc, .slice y.pa y.params.length y.pc] w' fun e w'' => e = .returned (.bool (samPs x.params y.params)) ∧ Below w'.heap.size w' w'') := fun w' hb => equalP_any _ _ _ _ _ _ w' ⟨hx.2.1, hx.2.2.1, hx.2.2.2.2.1.below hb⟩ ⟨hy.2.1, hy.2.2.1, hy.2.2.2.2.1.below hb⟩
  have HS : Hid (∀ w', Below w.heap.size w w' → Calls Tryz.prog 45 #[.slice x.ba x.body.length x.bc, .slice y.ba y.body.length y.bc] w' fun e w'' => e = .returned (.bool (samSs x.body y.body)) ∧ Below w'.heap.size w' w'') := fun w' hb => sameStmts_any _ _ _ _ _ _ w' (hx.2.2.2.2.2.2.stay hb) (hy.2.2.2.2.2.2.stay hb)
  have HE : Hid (samF x y = (x.name.toList == y.name.toList && (samPs x.params y.params && samSs x.body y.body))) := (rfl : samF x y = _)
  clear hx hy
  generalize samF x y = res at HE ⊢
  generalize samPs x.params y.params = rp at HE HP
  generalize samSs x.body y.body = rs at HE HS
  unfold Fu.val
  cases e1 : (x.name.toList == y.name.toList)
  · go_enter Tryz.func27, Tryz.ntmps27
    go_wp2_with fail
    go_ret
    exact ⟨ret_bool (by rw [HE.out, e1]; rfl), hb1⟩
  · go_enter Tryz.func27, Tryz.ntmps27
    go_wp2_with fail
    refine (HP.out _ hb1).mono ?_
    rintro e w1 ⟨rfl, k0⟩
    obtain ⟨hX, hY, _⟩ := two_cells k0
    have c2 := hX 2 _ rfl
    have d2 := hY 2 _ rfl
    have hb2 : Below w.heap.size w w1 := hb1.trans (k0.mono hb1.size)
    clear hX hY k0 hb1
    cases rp
    · go_wp2_with fail
      go_ret
      exact ⟨ret_bool (by rw [HE.out, e1]; rfl), hb2⟩
    · go_wp2_with fail
      refine (HS.out _ hb2).mono ?_
      rintro e w2 ⟨rfl, k1⟩
      go_wp2_with fail
      go_ret
      exact ⟨ret_bool (by rw [HE.out, e1]; rfl), hb2.trans (k1.mono hb2.size)⟩
end Go.Proofs.YtbpemackmadhgaaGreatDoor

/- slices.EqualFunc at functions. -/
namespace Go.Proofs.YtbpemackmadhgaaGreatDoor
open Go.RowKit

theorem rowF_cells {W : World} {a : Option Addr} {l : List Fu} (h : RowIn W a 3 (l.map Fu.cells)) {i : Nat} (hi : i < l.length) :
    ∃ b o, a = some ⟨b, o, none⟩ ∧ ∀ j v, l[i].cells[j]? = some v → W.cell? ⟨b, o + (i * 3 + j), none⟩ = some v := h i l[i].cells (by simp [hi])
def HaveF (W : World) (a : Option Addr) (c : Nat) (l : List Fu) : Prop := (l.length ≤ c ∧ c * 64 ≤ 140737488351232 ∧ RowIn W a 3 (l.map Fu.cells)) ∧ ∀ x ∈ l, x.In W
set_option maxRecDepth 100000 in
set_option maxHeartbeats 8000000 in
theorem eqF_step (h1 : ∀ (x y : Fu) (w : World), x.In w → y.In w → Calls Tryz.prog 27 #[x.val, y.val] w fun e w' => e = .returned (.bool (samF x y)) ∧ Below w.heap.size w w')
    (l t : List Fu) (a a' : Option Addr) (c c' : Nat) (w : World) (hin : HaveF w a c l) (hin' : HaveF w a' c' t) :
    Calls Tryz.prog 26 #[.slice a l.length c, .slice a' t.length c', .func (.func 27) #[] #[]] w fun e w' => e = .returned (.bool (samFs l t)) ∧ Below w.heap.size w w' := by
  have IH : Hid (∀ (x y : Fu) (w : World), x.In w → y.In w → Calls Tryz.prog 27 #[x.val, y.val] w fun e w' => e = .returned (.bool (samF x y)) ∧ Below w.heap.size w w') := h1
  have HA : Hid (HaveF w a c l) := hin
  have HB : Hid (HaveF w a' c' t) := hin'
  have hl := hin.1.1
  have hc := hin.1.2.1
  have hl' := hin'.1.1
  have hc' := hin'.1.2.1
  clear h1 hin hin'
  by_cases hle : l.length = t.length
  · have HL : Hid (l.length = t.length) := hle
    rw [← hle] at hl' ⊢
    clear hle
    go_enter Tryz.func26, Tryz.ntmps26
    go_wp2_with fail
    go_loopw [17] (fun t17 wr => ∃ (j : Nat), j ≤ l.length ∧ t17 = .int .i64 j ∧ samFs (l.drop j) (t.drop j) = samFs l t ∧ Below w.heap.size w wr) (fun t17 _ => l.length - (intOf t17).toNat)
    case atStart => exact ⟨0, Nat.zero_le _, rfl, rfl, Below.refl _ w⟩
    case round =>
      obtain ⟨j, hj, rfl, hcnt, hb⟩ := hrel
      have HC : Hid (samFs (l.drop j) (t.drop j) = samFs l t) := hcnt
      clear hcnt
      have hws := hb.size
      by_cases hlt : j < l.length
      · have hlt' : j < t.length := by have := HL.out; omega
        obtain ⟨b, o, rfl, hc1⟩ := rowF_cells (HA.out.1.2.2.below hb) hlt
        obtain ⟨b', o', rfl, hc2⟩ := rowF_cells (HB.out.1.2.2.below hb) hlt'
        have c0 := hc1 0 _ rfl
        have d0 := hc2 0 _ rfl
        have c1 := hc1 1 _ rfl
        have d1 := hc2 1 _ rfl
        have c2 := hc1 2 _ rfl
        have d2 := hc2 2 _ rfl
        simp only [← Nat.add_assoc, Nat.add_zero] at c0 d0 c1 d1 c2 d2
        clear hc1 hc2
        have hbl : b < wr.heap.size := lt_of_cell c0
        have hbl' : b' < wr.heap.size := lt_of_cell d0
        have hli : (j : Int) < (l.length : Int) := by omega
        have HY : Hid (l[j].In w) := HA.out.2 l[j] (List.getElem_mem hlt)
        have HY' : Hid (t[j].In w) := HB.out.2 t[j] (List.getElem_mem hlt')
        have HD : Hid (samFs (l.drop j) (t.drop j) = (samF l[j] t[j] && samFs (l.drop (j + 1)) (t.drop (j + 1)))) := samFs_drop hlt hlt'
        generalize l[j] = x at *
        generalize t[j] = y at *
        have hb2 := (hb.alloc hws (.cells #[.string x.name, .slice x.pa x.params.length x.pc, .slice x.ba x.body.length x.bc] 45)).alloc (by simp; omega) (.cells #[.string y.name, .slice y.pa y.params.length y.pc, .slice y.ba y.body.length y.bc] 45)
        have hs2 := hb2.size
        go_wp2_with fail
        refine (IH.out x y _ (HY.out.stay hb2) (HY'.out.stay hb2)).mono ?_
        rintro e w' ⟨rfl, hb'⟩
        have hb4 : Below w.heap.size w w' := hb2.trans (hb'.mono hs2)
        clear c0 d0 c1 d1 c2 d2
        cases ev : samF x y
        · rw [ev] at HD
          go_wp2_with fail
          go_ret
          exact ⟨ret_bool (by rw [← HC.out, HD.out]; rfl), hb4⟩
        · rw [ev] at HD
          go_wp2_with fail
          go_roundw
          case rel => exact ⟨j + 1, by omega, by go_num, by rw [← HC.out, HD.out]; rfl, hb4⟩
          case measure => simp [intOf]; omega
      · go_wp2_with fail
        go_ret
        refine ⟨ret_bool ?_, hb⟩
        rw [← HC.out, List.drop_eq_nil_of_le (by omega), List.drop_eq_nil_of_le (by have := HL.out; omega)]; simp [samFs]
  · have hne : ((l.length : Int) != (t.length : Int)) = true := by simp only [bne_iff_ne]; omega
    go_enter Tryz.func26, Tryz.ntmps26
    go_wp2_with fail
    go_ret
    exact ⟨ret_bool (by rw [samFs_len hle]), Below.refl _ w⟩
end Go.Proofs.YtbpemackmadhgaaGreatDoor

/- tree.Same: are two programs the same? -/
namespace Go.Proofs.YtbpemackmadhgaaGreatDoor
open Go.RowKit

def samPr (p q : Pr) : Bool := samI p.widen q.widen && samFs p.funcs q.funcs
theorem Pr.In.thr {w : World} {p : Pr} (h : p.In w) : Thr w p.wa p.wc p.widen := ⟨h.1, h.2.1, h.2.2.2.1⟩
theorem Pr.In.haveF {w : World} {p : Pr} (h : p.In w) : HaveF w p.fa p.fc p.funcs := by
  obtain ⟨_, _, _, _, _, h6, h7, _, h9, h10⟩ := h
  exact ⟨⟨h6, h7, h9⟩, h10⟩
set_option maxRecDepth 100000 in
set_option maxHeartbeats 4000000 in
theorem same_any (p q : Pr) (w : World) (hx : p.In w) (hy : q.In w) : Calls Tryz.prog 11 #[p.val, q.val] w fun e w' => e = .returned (.bool (samPr p q)) ∧ Below w.heap.size w w' := by
  have hb1 := ((Below.refl _ w).alloc (Nat.le_refl _) (.cells #[.slice p.wa p.widen.length p.wc, .slice p.fa p.funcs.length p.fc] 25)).alloc (by simp) (.cells #[.slice q.wa q.widen.length q.wc, .slice q.fa q.funcs.length q.fc] 25)
  have HP : Hid (∀ w', Below w.heap.size w w' → Calls Tryz.prog 25 #[.slice p.wa p.widen.length p.wc, .slice q.wa q.widen.length q.wc] w' fun e w'' => e = .returned (.bool (samI p.widen q.widen)) ∧ Below w'.heap.size w' w'') := fun w' hb => equalI_any _ _ _ _ _ _ w' (hx.stay hb).thr (hy.stay hb).thr
  have HS : Hid (∀ w', Below w.heap.size w w' → Calls Tryz.prog 26 #[.slice p.fa p.funcs.length p.fc, .slice q.fa q.funcs.length q.fc, .func (.func 27) #[] #[]] w' fun e w'' => e = .returned (.bool (samFs p.funcs q.funcs)) ∧ Below w'.heap.size w' w'') := fun w' hb => eqF_step (fun x y w hx hy => sameFn_any x y w hx hy) _ _ _ _ _ _ w' (hx.stay hb).haveF (hy.stay hb).haveF
  have HE : Hid (samPr p q = (samI p.widen q.widen && samFs p.funcs q.funcs)) := (rfl : samPr p q = _)
  clear hx hy
  generalize samPr p q = res at HE ⊢
  generalize samI p.widen q.widen = ri at HE HP
  generalize samFs p.funcs q.funcs = rf at HE HS
  unfold Pr.val
  go_enter Tryz.func11, Tryz.ntmps11
  go_wp2_with fail
  refine (HP.out _ hb1).mono ?_
  rintro e w1 ⟨rfl, k0⟩
  obtain ⟨hX, hY, _⟩ := two_cells k0
  have c1 := hX 1 _ rfl
  have d1 := hY 1 _ rfl
  have hb2 : Below w.heap.size w w1 := hb1.trans (k0.mono hb1.size)
  clear hX hY k0 hb1
  cases ri
  · go_wp2_with fail
    go_ret
    exact ⟨ret_bool (by rw [HE.out]; rfl), hb2⟩
  · go_wp2_with fail
    refine (HS.out _ hb2).mono ?_
    rintro e w2 ⟨rfl, k1⟩
    go_wp2_with fail
    go_ret
    exact ⟨ret_bool (by rw [HE.out]; rfl), hb2.trans (k1.mono hb2.size)⟩
end Go.Proofs.YtbpemackmadhgaaGreatDoor

/- A program's text gathered; tree.Print where Check finds nothing wrong. -/
namespace Go.Proofs.YtbpemackmadhgaaGreatDoor
open Go.RowKit Go.Sort

theorem oth_cell {W W' : World} {b k j : Nat} {cs : Array Value} {t : TypeId} {fz : Nat × Nat} {v : Value} (h : W.heap[k]? = some (.cells cs t fz)) (ht : t ≠ 5) (hk : k ≠ b) (ho : Oth b W W') (hv : cs[j]? = some v) : W'.cell? ⟨k, j, none⟩ = some v := by
  have := ho k _ h (by simpa using hk) (fun c fz' e => ht (by cases e; rfl))
  rw [Lib.cell_of_heap this]; exact hv
/-- line, in a world behind one in which the page lies. -/
theorem line_in {B b : Nat} {l : List UInt8} {d : Nat} {xs : List ByteArray} {W0 W : World} (h : PgT B b l d W0) (hb : Below W0.heap.size W0 W) (hB : B ≤ W0.heap.size) (hn : xs.length ≤ 1000) (hd : d ≤ 100) (hlen : (l ++ lineB d (cat xs)).length ≤ 140737488355328) :
    Calls Tryz.prog 35 #[.pointer (some ⟨b, 0, none⟩), .slice (some ⟨W.heap.size, 0, none⟩) xs.length xs.length] (W.alloc (.cells (xs.map Value.string).toArray 9)) fun e w' => e = .returned (.tuple #[]) ∧ Hid (PgT B b (l ++ lineB d (cat xs)) d w') ∧ Hid (Below B W0 w') ∧ Oth b W0 w' :=
  (line_new B b l d xs W (h.stay hb) (by have := hb.size; omega) hn hd hlen).mono fun _ _ ⟨he, hp, hb', ho⟩ => ⟨he, hp, ((hb.mono hB).alloc (by have := hb.size; omega) _).trans hb', ((oth_below hb).alloc _).trans ho⟩
theorem comB_one (l : List Int) : comB ((l.map fun x => (⟨(Lib.itoa x).toArray⟩ : ByteArray)).map (·.data.toList)) = comB (l.map Lib.itoa) := by rw [List.map_map]; rfl
theorem comB_pa (l : List Pa) : comB ((l.map fun x => (⟨(paB x).toArray⟩ : ByteArray)).map (·.data.toList)) = comB (l.map paB) := by rw [List.map_map]; rfl
theorem strs_len {α : Type} {w : World} {v : Value} {l : List α} {f : α → ByteArray} (h : Strs w v (l.map f)) : ∃ va vc, v = .slice va l.length vc ∧ Hid (Strs w (.slice va l.length vc) (l.map f)) := by
  obtain ⟨va, vc, hv, hcap, hcc⟩ := h
  have e : (l.map f).length = l.length := List.length_map ..
  rw [e] at hv
  exact ⟨va, vc, hv, ⟨va, vc, by rw [e], hcap, hcc⟩⟩

/-- What is asked of a function that is to be written. -/
def FnPr (w0 : World) (f : Fu) : Prop := (∀ s ∈ f.body, StmtD w0 2 s) ∧ (∀ q ∈ f.params, (paB q).length ≤ 100000) ∧ f.params.length ≤ 8


set_option maxRecDepth 100000 in
set_option maxHeartbeats 16000000 in
theorem program_any (w0 : World) (b : Nat) (w : World) (p : Pr) (hB : Below w0.heap.size w0 w) (hp : PgT w0.heap.size b [] 0 w) (hin : p.In w0) (hnt : NumT w0) (hw16 : p.widen.length ≤ 16) (hf : ∀ f ∈ p.funcs, FnPr w0 f) (hlen : (txP p).length ≤ 140737488355328) :
    Calls Tryz.prog 17 #[.pointer (some ⟨b, 0, none⟩), p.val] w fun e w' => e = .returned (.tuple #[]) ∧ PgT w0.heap.size b (txP p) 0 w' ∧ Below w0.heap.size w w' ∧ Oth b w w' := by
  have HB : Hid (Below w0.heap.size w0 w) := hB
  have HNT : Hid (NumT w0) := hnt
  have HF : Hid (∀ f ∈ p.funcs, FnPr w0 f) := hf
  have HP : Hid (PgT w0.heap.size b [] 0 w) := hp
  have hsw := hB.size
  have hth := hin.thr
  obtain ⟨_, _, _, _, hw64, hfl, hfc, _, hrow, hsub⟩ := hin
  have HR : Hid (RowIn w0 p.fa 3 (List.map Fu.cells p.funcs)) := hrow
  have HFS : Hid (∀ f ∈ p.funcs, f.In w0) := hsub
  have HW : Hid (Thr w0 p.wa p.wc p.widen) := hth
  have HW64 : Hid (∀ z ∈ p.widen, I64 z) := hw64
  have hblt : b < w.heap.size := by obtain ⟨q, h1⟩ := hp.some; exact h1.lt
  have HTP : Hid (txP p = txW p.widen ++ txFs p.funcs) := (rfl : txP p = _)
  have HLEN : Hid ((txW p.widen).length + (txFs p.funcs).length ≤ 140737488355328) := by show _ ≤ _; simpa [txP] using hlen
  clear hB hnt hf hp hrow hsub hth hw64 hlen
  obtain ⟨l1, hl1⟩ : ∃ l1, txW p.widen = l1 := ⟨_, rfl⟩
  rw [hl1] at HTP HLEN
  have HL1 : Hid (txW p.widen = l1) := hl1
  clear hl1
  unfold Pr.val
  by_cases hw : 0 < p.widen.length
  · have HX : Hid (lineB 0 (cat [⟨#[119, 105, 100, 101, 110, 32]⟩, ⟨(comB (p.widen.map Lib.itoa)).toArray⟩, ⟨#[59]⟩]) = l1) := by
      show _ = _; rw [← HL1.out, txW, if_neg (by omega)]; simp [cat]
    have HLX : Hid (([] ++ lineB 0 (cat [⟨#[119, 105, 100, 101, 110, 32]⟩, ⟨(comB (p.widen.map Lib.itoa)).toArray⟩, ⟨#[59]⟩])).length ≤ 140737488355328) := by
      show _ ≤ _; rw [HX.out]; have := HLEN.out; simp; omega
    have HLC : Hid ((comB (p.widen.map Lib.itoa)).length ≤ 140737488355328) := by show _ ≤ _; have := HLX.out; simp [lineB, cat] at this; omega
    have HLM : Hid ((p.widen.map fun x => (⟨(Lib.itoa x).toArray⟩ : ByteArray)).length ≤ 1000000) := by show _ ≤ _; rw [List.length_map]; omega
    have hwi : (0 : Int) < (p.widen.length : Int) := by omega
    go_enter Tryz.func17, Tryz.ntmps17
    go_wp2_with fail
    have hb0 := (Below.refl _ w).alloc (Nat.le_refl _) (.cells #[.slice p.wa p.widen.length p.wc, .slice p.fa p.funcs.length p.fc] 25)
    have hbk : (w.alloc (.cells #[.slice p.wa p.widen.length p.wc, .slice p.fa p.funcs.length p.fc] 25)).heap[w.heap.size]? = some (.cells #[.slice p.wa p.widen.length p.wc, .slice p.fa p.funcs.length p.fc] 25 (0, 0)) := heap_alloc_new w _
    have hbw : Below w0.heap.size w0 _ := HB.out.trans (hb0.mono hsw)
    refine (eachint64_any p.widen p.wa p.wc _ (by omega) (HW.out.2.2.below hbw) (fun x hx w'' hb' => number_any x w'' (HW64.out x hx) ((HNT.out.stay hbw).stay hb'))).mono ?_
    rintro e w1 ⟨v, rfl, hs, hb1⟩
    obtain ⟨va, vc, rfl, hs'⟩ := strs_len hs
    have HBK : Hid (w1.heap[w.heap.size]? = some (.cells #[.slice p.wa p.widen.length p.wc, .slice p.fa p.funcs.length p.fc] 25 (0, 0))) := (hb1.block w.heap.size (by simp)).trans hbk
    have hb2 := Below.on hb0 hb1
    clear hs hbk hb1
    go_wp2_with fail
    refine (commas_of hs'.out (comB_one p.widen) HLM.out HLC.out).mono ?_
    rintro e w2 ⟨rfl, hb3⟩
    have HBK2 : Hid (w2.heap[w.heap.size]? = some (.cells #[.slice p.wa p.widen.length p.wc, .slice p.fa p.funcs.length p.fc] 25 (0, 0))) := (hb3.block w.heap.size (Array.getElem?_eq_some_iff.1 HBK.out).1).trans HBK.out
    have hb4 := Below.on hb2 hb3
    clear hs' hb3
    go_wp2_with fail
    refine (line_in (W0 := w2) (xs := [⟨#[119, 105, 100, 101, 110, 32]⟩, ⟨(comB (p.widen.map Lib.itoa)).toArray⟩, ⟨#[59]⟩]) (HP.out.stay hb4) (Below.refl _ _) (by have := hb4.size; omega) (Nat.le_of_ble_eq_true rfl) (by decide) HLX.out).mono ?_
    rintro e w3 ⟨rfl, hp3, hb5, ho3⟩
    have HPG : Hid (PgT w0.heap.size b l1 0 w3) := by show PgT _ _ _ _ _; have := hp3.out; rw [HX.out] at this; simpa using this
    have hb1 : Below w0.heap.size w w3 := (hb4.mono hsw).trans hb5.out
    have hoA : Oth b w w3 := (oth_below hb4).trans ho3
    have c1 : w3.cell? ⟨w.heap.size, 1, none⟩ = some (.slice p.fa p.funcs.length p.fc) := oth_cell HBK2.out (by decide) (by omega) ho3 rfl
    clear hp3 hb5 ho3 hb0 hb2 hb4 hbw
    go_wp2_with fail
    go_loopw [20] (fun t20 wr => ∃ (j : Nat), j ≤ p.funcs.length ∧ t20 = .int .i64 j ∧ Hid (PgT w0.heap.size b (l1 ++ txFs (p.funcs.take j)) 0 wr) ∧ Below w0.heap.size w wr ∧ Oth b w wr) (fun t20 _ => p.funcs.length - (intOf t20).toNat)
    case atStart => exact ⟨0, Nat.zero_le _, rfl, by show PgT _ _ _ _ _; simpa [txFs] using HPG.out, hb1, hoA⟩
    case round =>
      obtain ⟨j, hj, rfl, HPJ, hbj, hoj⟩ := hrel
      clear HPG hb1 c1 hoA
      have hwj := hbj.size
      have hbj0 : Below w0.heap.size w0 wr := HB.out.trans hbj
      by_cases hlt : j < p.funcs.length
      · obtain ⟨rb, o, hfa, k0, k1, k2⟩ := rowF_at (HR.out.below hbj0) hlt
        rw [hfa]
        have hli : (j : Int) < (p.funcs.length : Int) := by omega
        have HT : Hid (txFs (p.funcs.take (j + 1)) = txFs (p.funcs.take j) ++ txF p.funcs[j]) := txFs_take p.funcs j hlt
        have HLE : Hid ((txFs (p.funcs.take (j + 1))).length ≤ (txFs p.funcs).length) := txFs_le p.funcs (j + 1)
        have HFN : Hid (FnPr w0 p.funcs[j]) := HF.out p.funcs[j] (List.getElem_mem hlt)
        have HFI : Hid (p.funcs[j].In w0) := HFS.out p.funcs[j] (List.getElem_mem hlt)
        generalize p.funcs[j] = f at *
        have hblt : b < wr.heap.size := by obtain ⟨q, h1⟩ := HPJ.out.some; exact h1.lt
        have HLF : Hid ((l1 ++ txFs (p.funcs.take j)).length + (txF f).length ≤ 140737488355328) := by
          show _ ≤ _; have := HLE.out; have := HLEN.out; rw [HT.out] at *; simp only [List.length_append] at *; omega
        have HTF : Hid (txF f = lineB 0 (cat [⟨#[102, 110, 32]⟩, f.name, ⟨#[40]⟩, ⟨(comB (f.params.map paB)).toArray⟩, ⟨#[41, 32, 123]⟩]) ++ txSs f.body 1 ++ lineB 0 (cat [⟨#[125]⟩])) := by show _ = _; simp [txF, cat]
        obtain ⟨lj, HLJ⟩ : ∃ lj, l1 ++ txFs (p.funcs.take j) = lj := ⟨_, rfl⟩
        rw [HLJ] at HPJ HLF
        have HLJH : Hid (l1 ++ txFs (p.funcs.take j) = lj) := HLJ
        clear HLJ
        go_wp2_with fail
        obtain ⟨W0, hW0⟩ : ∃ W0, wr.alloc (.cells #[.string f.name, .slice f.pa f.params.length f.pc, .slice f.ba f.body.length f.bc] 45) = W0 := ⟨_, rfl⟩
        have hbx : Below wr.heap.size wr W0 := by rw [← hW0]; exact (Below.refl _ wr).alloc (Nat.le_refl _) _
        have hbk : W0.heap[wr.heap.size]? = some (.cells #[.string f.name, .slice f.pa f.params.length f.pc, .slice f.ba f.body.length f.bc] 45 (0, 0)) := by rw [← hW0]; exact heap_alloc_new wr _
        rw [hW0]
        have HBX : Hid (Below w0.heap.size w W0) := hbj.trans (hbx.mono (by omega))
        have HOX : Hid (Oth b w W0) := hoj.trans (oth_below hbx)
        have HPX : Hid (PgT w0.heap.size b lj 0 W0) := HPJ.out.stay hbx
        have hsx : w0.heap.size ≤ W0.heap.size := by have := hbx.size; omega
        have hne : wr.heap.size ≠ b := by omega
        have y0 : ∀ w', Oth b W0 w' → w'.cell? ⟨wr.heap.size, 0, none⟩ = some (.string f.name) := fun w' ho => oth_cell hbk (by decide) hne ho rfl
        have y1 : ∀ w', Oth b W0 w' → w'.cell? ⟨wr.heap.size, 1, none⟩ = some (.slice f.pa f.params.length f.pc) := fun w' ho => oth_cell hbk (by decide) hne ho rfl
        have HY2 : Hid (∀ w', Oth b W0 w' → w'.cell? ⟨wr.heap.size, 2, none⟩ = some (.slice f.ba f.body.length f.bc)) := fun w' ho => oth_cell hbk (by decide) hne ho rfl
        have hdrew : Below W0.heap.size W0 W0.drew := Below.drew (Below.refl _ _)
        have HEA : Hid (∀ w', Below W0.heap.size W0 w' → Calls Tryz.prog 39 #[.slice f.pa f.params.length f.pc, .func (.func 40) #[] #[]] w' fun e w'' => ∃ va vc, e = .returned (.slice va f.params.length vc) ∧ Hid (Strs w'' (.slice va f.params.length vc) (f.params.map fun x => ⟨(paB x).toArray⟩)) ∧ Below w'.heap.size w' w'') := fun w' hb => by
          have hbw : Below w0.heap.size w0 w' := (HB.out.trans HBX.out).trans (hb.mono hsx)
          obtain ⟨_, _, _, _, hpr, hpo, _⟩ := HFI.out
          refine (eachParam_any f.params f.pa f.pc w' (by have := HFN.out.2.2; omega) (hpr.below hbw) (fun x hx w'' hb' => param_any x w'' (hpo x hx) ((HNT.out.stay hbw).stay hb') (HFN.out.2.1 x hx))).mono fun e w'' ⟨v, he, hs, hb'⟩ => ?_
          obtain ⟨va, vc, rfl, hs'⟩ := strs_len hs
          exact ⟨va, vc, he, hs', hb'⟩
        have HLM : Hid ((f.params.map fun x => (⟨(paB x).toArray⟩ : ByteArray)).length ≤ 1000000) := by show _ ≤ _; rw [List.length_map]; have := HFN.out.2.2; omega
        have HL1 : Hid ((lj ++ lineB 0 (cat [⟨#[102, 110, 32]⟩, f.name, ⟨#[40]⟩, ⟨(comB (f.params.map paB)).toArray⟩, ⟨#[41, 32, 123]⟩])).length ≤ 140737488355328) := by
          show _ ≤ _; have := HLF.out; rw [HTF.out] at this; simp only [List.length_append] at *; omega
        have HL0 : Hid ((comB (f.params.map paB)).length ≤ 140737488355328) := by
          show _ ≤ _; have := HL1.out; simp [lineB, cat] at this; omega
        clear hW0 hbx hbk k0 k1 k2
        go_region_held3 (fun w' => Oth b W0 w') (first | exact oth_below (by assumption) | exact Lib.OthersKept.trans (by assumption) (oth_below (by assumption)) | exact Lib.OthersKept.alloc (by assumption) _ | assumption)
          (first
            | (go_at_call 39; refine (HEA.out _ (by assumption)).mono ?_; rintro e w' ⟨va, vc, rfl, hs, hb⟩; have hB : Below W0.heap.size W0 w' := Below.on (by assumption) hb)
            | (go_at_call 36; refine (commas_of hs.out (comB_pa f.params) HLM.out HL0.out).mono ?_; rintro e w' ⟨rfl, hb⟩; have hB : Below W0.heap.size W0 w' := Below.on (by assumption) hb)
            | (go_at_call 35; refine (line_in (xs := [⟨#[102, 110, 32]⟩, f.name, ⟨#[40]⟩, ⟨(comB (f.params.map paB)).toArray⟩, ⟨#[41, 32, 123]⟩]) HPX.out (by assumption) hsx (Nat.le_of_ble_eq_true rfl) (by decide) HL1.out).mono ?_; rintro e w' ⟨rfl, hpl, hbl, hol⟩))
        have y2 := HY2.out _ hol
        have HL2 : Hid (((lj ++ lineB 0 (cat [⟨#[102, 110, 32]⟩, f.name, ⟨#[40]⟩, ⟨(comB (f.params.map paB)).toArray⟩, ⟨#[41, 32, 123]⟩])) ++ txSs f.body (0 + 1)).length ≤ 140737488355328) := by
          show _ ≤ _; have := HLF.out; rw [HTF.out] at this; simp only [List.length_append, Nat.zero_add] at *; omega
        have HBL : Hid (Below w0.heap.size w0 w') := (HB.out.trans HBX.out).trans hbl.out
        clear y0 y1 hs
        go_wp2_with fail
        refine (bodyD w0 2 b _ 0 f.body f.ba f.bc w' HBL.out hpl.out (by omega) (by omega) HFI.out.2.2.2.2.2.2 HFN.out.1 HL2.out).mono ?_
        rintro e w2 ⟨rfl, hp2, hb2, ho2⟩
        have HP2 : Hid (PgT w0.heap.size b ((lj ++ lineB 0 (cat [⟨#[102, 110, 32]⟩, f.name, ⟨#[40]⟩, ⟨(comB (f.params.map paB)).toArray⟩, ⟨#[41, 32, 123]⟩])) ++ txSs f.body (0 + 1)) 0 w2) := hp2
        have hs2 : w0.heap.size ≤ w2.heap.size := (HBL.out.trans hb2).size
        have HL3 : Hid ((((lj ++ lineB 0 (cat [⟨#[102, 110, 32]⟩, f.name, ⟨#[40]⟩, ⟨(comB (f.params.map paB)).toArray⟩, ⟨#[41, 32, 123]⟩])) ++ txSs f.body (0 + 1)) ++ lineB 0 (cat [⟨#[125]⟩])).length ≤ 140737488355328) := by
          show _ ≤ _; have := HLF.out; rw [HTF.out] at this; simp only [List.length_append, Nat.zero_add] at *; omega
        clear hp2 y2
        go_wp2_with fail
        refine (line_new w0.heap.size b _ 0 [⟨#[125]⟩] w2 HP2.out hs2 (Nat.le_of_ble_eq_true rfl) (by decide) HL3.out).mono ?_
        rintro e w3 ⟨rfl, hp3, hb3, ho3⟩
        have HP3 : Hid (PgT w0.heap.size b (lj ++ txF f) 0 w3) := by
          show PgT _ _ _ _ _; rw [HTF.out, ← List.append_assoc, ← List.append_assoc]; exact hp3
        have hb4 : Below w0.heap.size w w3 := ((HBX.out.trans hbl.out).trans hb2).trans (((Below.refl _ w2).alloc hs2 _).trans hb3)
        have ho4 : Oth b w w3 := ((HOX.out.trans hol).trans ho2).trans (((Lib.OthersKept.refl _ _ w2).alloc _).trans ho3)
        clear hp3
        go_wp2_with fail
        go_roundw
        case rel => exact ⟨j + 1, by omega, by go_num, by show PgT _ _ _ _ _; rw [HT.out, ← List.append_assoc, HLJH.out]; exact HP3.out, hb4, ho4⟩
        case measure => simp [intOf]; omega
      · obtain rfl : j = p.funcs.length := by omega
        go_wp2_with fail
        go_end0
        refine ⟨rfl, ?_, hbj, hoj⟩
        have := HPJ.out
        rw [List.take_length] at this
        rw [HTP.out]; exact this
  · have HX : Hid (l1 = []) := by show _ = _; rw [← HL1.out, txW, if_pos (by omega)]
    have hwi : ¬ (0 : Int) < (p.widen.length : Int) := by omega
    have hb0 := (Below.refl _ w).alloc (Nat.le_refl _) (.cells #[.slice p.wa p.widen.length p.wc, .slice p.fa p.funcs.length p.fc] 25)
    have HPG : Hid (PgT w0.heap.size b l1 0 (w.alloc (.cells #[.slice p.wa p.widen.length p.wc, .slice p.fa p.funcs.length p.fc] 25))) := by show PgT _ _ _ _ _; rw [HX.out]; exact HP.out.stay hb0
    have hb1 : Below w0.heap.size w _ := hb0.mono hsw
    have hoA : Oth b w _ := oth_below hb0
    go_enter Tryz.func17, Tryz.ntmps17
    go_wp2_with fail
    go_loopw [20] (fun t20 wr => ∃ (j : Nat), j ≤ p.funcs.length ∧ t20 = .int .i64 j ∧ Hid (PgT w0.heap.size b (l1 ++ txFs (p.funcs.take j)) 0 wr) ∧ Below w0.heap.size w wr ∧ Oth b w wr) (fun t20 _ => p.funcs.length - (intOf t20).toNat)
    case atStart => exact ⟨0, Nat.zero_le _, rfl, by show PgT _ _ _ _ _; simpa [txFs] using HPG.out, hb1, hoA⟩
    case round =>
      obtain ⟨j, hj, rfl, HPJ, hbj, hoj⟩ := hrel
      clear HPG hb1 hb0 hoA
      have hwj := hbj.size
      have hbj0 : Below w0.heap.size w0 wr := HB.out.trans hbj
      by_cases hlt : j < p.funcs.length
      · obtain ⟨rb, o, hfa, k0, k1, k2⟩ := rowF_at (HR.out.below hbj0) hlt
        rw [hfa]
        have hli : (j : Int) < (p.funcs.length : Int) := by omega
        have HT : Hid (txFs (p.funcs.take (j + 1)) = txFs (p.funcs.take j) ++ txF p.funcs[j]) := txFs_take p.funcs j hlt
        have HLE : Hid ((txFs (p.funcs.take (j + 1))).length ≤ (txFs p.funcs).length) := txFs_le p.funcs (j + 1)
        have HFN : Hid (FnPr w0 p.funcs[j]) := HF.out p.funcs[j] (List.getElem_mem hlt)
        have HFI : Hid (p.funcs[j].In w0) := HFS.out p.funcs[j] (List.getElem_mem hlt)
        generalize p.funcs[j] = f at *
        have hblt : b < wr.heap.size := by obtain ⟨q, h1⟩ := HPJ.out.some; exact h1.lt
        have HLF : Hid ((l1 ++ txFs (p.funcs.take j)).length + (txF f).length ≤ 140737488355328) := by
          show _ ≤ _; have := HLE.out; have := HLEN.out; rw [HT.out] at *; simp only [List.length_append] at *; omega
        have HTF : Hid (txF f = lineB 0 (cat [⟨#[102, 110, 32]⟩, f.name, ⟨#[40]⟩, ⟨(comB (f.params.map paB)).toArray⟩, ⟨#[41, 32, 123]⟩]) ++ txSs f.body 1 ++ lineB 0 (cat [⟨#[125]⟩])) := by show _ = _; simp [txF, cat]
        obtain ⟨lj, HLJ⟩ : ∃ lj, l1 ++ txFs (p.funcs.take j) = lj := ⟨_, rfl⟩
        rw [HLJ] at HPJ HLF
        have HLJH : Hid (l1 ++ txFs (p.funcs.take j) = lj) := HLJ
        clear HLJ
        go_wp2_with fail
        obtain ⟨W0, hW0⟩ : ∃ W0, wr.alloc (.cells #[.string f.name, .slice f.pa f.params.length f.pc, .slice f.ba f.body.length f.bc] 45) = W0 := ⟨_, rfl⟩
        have hbx : Below wr.heap.size wr W0 := by rw [← hW0]; exact (Below.refl _ wr).alloc (Nat.le_refl _) _
        have hbk : W0.heap[wr.heap.size]? = some (.cells #[.string f.name, .slice f.pa f.params.length f.pc, .slice f.ba f.body.length f.bc] 45 (0, 0)) := by rw [← hW0]; exact heap_alloc_new wr _
        rw [hW0]
        have HBX : Hid (Below w0.heap.size w W0) := hbj.trans (hbx.mono (by omega))
        have HOX : Hid (Oth b w W0) := hoj.trans (oth_below hbx)
        have HPX : Hid (PgT w0.heap.size b lj 0 W0) := HPJ.out.stay hbx
        have hsx : w0.heap.size ≤ W0.heap.size := by have := hbx.size; omega
        have hne : wr.heap.size ≠ b := by omega
        have y0 : ∀ w', Oth b W0 w' → w'.cell? ⟨wr.heap.size, 0, none⟩ = some (.string f.name) := fun w' ho => oth_cell hbk (by decide) hne ho rfl
        have y1 : ∀ w', Oth b W0 w' → w'.cell? ⟨wr.heap.size, 1, none⟩ = some (.slice f.pa f.params.length f.pc) := fun w' ho => oth_cell hbk (by decide) hne ho rfl
        have HY2 : Hid (∀ w', Oth b W0 w' → w'.cell? ⟨wr.heap.size, 2, none⟩ = some (.slice f.ba f.body.length f.bc)) := fun w' ho => oth_cell hbk (by decide) hne ho rfl
        have hdrew : Below W0.heap.size W0 W0.drew := Below.drew (Below.refl _ _)
        have HEA : Hid (∀ w', Below W0.heap.size W0 w' → Calls Tryz.prog 39 #[.slice f.pa f.params.length f.pc, .func (.func 40) #[] #[]] w' fun e w'' => ∃ va vc, e = .returned (.slice va f.params.length vc) ∧ Hid (Strs w'' (.slice va f.params.length vc) (f.params.map fun x => ⟨(paB x).toArray⟩)) ∧ Below w'.heap.size w' w'') := fun w' hb => by
          have hbw : Below w0.heap.size w0 w' := (HB.out.trans HBX.out).trans (hb.mono hsx)
          obtain ⟨_, _, _, _, hpr, hpo, _⟩ := HFI.out
          refine (eachParam_any f.params f.pa f.pc w' (by have := HFN.out.2.2; omega) (hpr.below hbw) (fun x hx w'' hb' => param_any x w'' (hpo x hx) ((HNT.out.stay hbw).stay hb') (HFN.out.2.1 x hx))).mono fun e w'' ⟨v, he, hs, hb'⟩ => ?_
          obtain ⟨va, vc, rfl, hs'⟩ := strs_len hs
          exact ⟨va, vc, he, hs', hb'⟩
        have HLM : Hid ((f.params.map fun x => (⟨(paB x).toArray⟩ : ByteArray)).length ≤ 1000000) := by show _ ≤ _; rw [List.length_map]; have := HFN.out.2.2; omega
        have HL1 : Hid ((lj ++ lineB 0 (cat [⟨#[102, 110, 32]⟩, f.name, ⟨#[40]⟩, ⟨(comB (f.params.map paB)).toArray⟩, ⟨#[41, 32, 123]⟩])).length ≤ 140737488355328) := by
          show _ ≤ _; have := HLF.out; rw [HTF.out] at this; simp only [List.length_append] at *; omega
        have HL0 : Hid ((comB (f.params.map paB)).length ≤ 140737488355328) := by
          show _ ≤ _; have := HL1.out; simp [lineB, cat] at this; omega
        clear hW0 hbx hbk k0 k1 k2
        go_region_held3 (fun w' => Oth b W0 w') (first | exact oth_below (by assumption) | exact Lib.OthersKept.trans (by assumption) (oth_below (by assumption)) | exact Lib.OthersKept.alloc (by assumption) _ | assumption)
          (first
            | (go_at_call 39; refine (HEA.out _ (by assumption)).mono ?_; rintro e w' ⟨va, vc, rfl, hs, hb⟩; have hB : Below W0.heap.size W0 w' := Below.on (by assumption) hb)
            | (go_at_call 36; refine (commas_of hs.out (comB_pa f.params) HLM.out HL0.out).mono ?_; rintro e w' ⟨rfl, hb⟩; have hB : Below W0.heap.size W0 w' := Below.on (by assumption) hb)
            | (go_at_call 35; refine (line_in (xs := [⟨#[102, 110, 32]⟩, f.name, ⟨#[40]⟩, ⟨(comB (f.params.map paB)).toArray⟩, ⟨#[41, 32, 123]⟩]) HPX.out (by assumption) hsx (Nat.le_of_ble_eq_true rfl) (by decide) HL1.out).mono ?_; rintro e w' ⟨rfl, hpl, hbl, hol⟩))
        have y2 := HY2.out _ hol
        have HL2 : Hid (((lj ++ lineB 0 (cat [⟨#[102, 110, 32]⟩, f.name, ⟨#[40]⟩, ⟨(comB (f.params.map paB)).toArray⟩, ⟨#[41, 32, 123]⟩])) ++ txSs f.body (0 + 1)).length ≤ 140737488355328) := by
          show _ ≤ _; have := HLF.out; rw [HTF.out] at this; simp only [List.length_append, Nat.zero_add] at *; omega
        have HBL : Hid (Below w0.heap.size w0 w') := (HB.out.trans HBX.out).trans hbl.out
        clear y0 y1 hs
        go_wp2_with fail
        refine (bodyD w0 2 b _ 0 f.body f.ba f.bc w' HBL.out hpl.out (by omega) (by omega) HFI.out.2.2.2.2.2.2 HFN.out.1 HL2.out).mono ?_
        rintro e w2 ⟨rfl, hp2, hb2, ho2⟩
        have HP2 : Hid (PgT w0.heap.size b ((lj ++ lineB 0 (cat [⟨#[102, 110, 32]⟩, f.name, ⟨#[40]⟩, ⟨(comB (f.params.map paB)).toArray⟩, ⟨#[41, 32, 123]⟩])) ++ txSs f.body (0 + 1)) 0 w2) := hp2
        have hs2 : w0.heap.size ≤ w2.heap.size := (HBL.out.trans hb2).size
        have HL3 : Hid ((((lj ++ lineB 0 (cat [⟨#[102, 110, 32]⟩, f.name, ⟨#[40]⟩, ⟨(comB (f.params.map paB)).toArray⟩, ⟨#[41, 32, 123]⟩])) ++ txSs f.body (0 + 1)) ++ lineB 0 (cat [⟨#[125]⟩])).length ≤ 140737488355328) := by
          show _ ≤ _; have := HLF.out; rw [HTF.out] at this; simp only [List.length_append, Nat.zero_add] at *; omega
        clear hp2 y2
        go_wp2_with fail
        refine (line_new w0.heap.size b _ 0 [⟨#[125]⟩] w2 HP2.out hs2 (Nat.le_of_ble_eq_true rfl) (by decide) HL3.out).mono ?_
        rintro e w3 ⟨rfl, hp3, hb3, ho3⟩
        have HP3 : Hid (PgT w0.heap.size b (lj ++ txF f) 0 w3) := by
          show PgT _ _ _ _ _; rw [HTF.out, ← List.append_assoc, ← List.append_assoc]; exact hp3
        have hb4 : Below w0.heap.size w w3 := ((HBX.out.trans hbl.out).trans hb2).trans (((Below.refl _ w2).alloc hs2 _).trans hb3)
        have ho4 : Oth b w w3 := ((HOX.out.trans hol).trans ho2).trans (((Lib.OthersKept.refl _ _ w2).alloc _).trans ho3)
        clear hp3
        go_wp2_with fail
        go_roundw
        case rel => exact ⟨j + 1, by omega, by go_num, by show PgT _ _ _ _ _; rw [HT.out, ← List.append_assoc, HLJH.out]; exact HP3.out, hb4, ho4⟩
        case measure => simp [intOf]; omega
      · obtain rfl : j = p.funcs.length := by omega
        go_wp2_with fail
        go_end0
        refine ⟨rfl, ?_, hbj, hoj⟩
        have := HPJ.out
        rw [List.take_length] at this
        rw [HTP.out]; exact this
end Go.Proofs.YtbpemackmadhgaaGreatDoor

/- tree.Print, where nothing is wrong with the form. -/
namespace Go.Proofs.YtbpemackmadhgaaGreatDoor
open Go.RowKit Go.Sort

theorem heap3 {w w1 : World} {c1 c2 : Array Value} {t1 t2 : TypeId} (hb : Below ((w.alloc (.cells c1 t1)).alloc (.cells c2 t2)).heap.size ((w.alloc (.cells c1 t1)).alloc (.cells c2 t2)) w1) :
    w1.heap[w.heap.size]? = some (.cells c1 t1 (0, 0)) ∧ w1.heap[w.heap.size + 1]? = some (.cells c2 t2 (0, 0)) := by
  have h1 : ((w.alloc (.cells c1 t1)).alloc (.cells c2 t2)).heap[w.heap.size]? = some (.cells c1 t1 (0, 0)) := (Lib.alloc_old _ _ _ (by simp)).trans (heap_alloc_new w _)
  have h2 : ((w.alloc (.cells c1 t1)).alloc (.cells c2 t2)).heap[w.heap.size + 1]? = some (.cells c2 t2 (0, 0)) := by
    have := heap_alloc_new (w.alloc (.cells c1 t1)) (.cells c2 t2)
    rwa [World.size_alloc] at this
  exact ⟨(hb.block _ (by simp; omega)).trans h1, (hb.block _ (by simp)).trans h2⟩

set_option maxHeartbeats 2000000 in
set_option maxRecDepth 100000 in
theorem string_oth (B b : Nat) (l : List UInt8) (d : Int) (w : World) (h : Pg B b (Lib.byteCells l) d w) :
    Calls Tryz.prog 19 #[.pointer (some ⟨b, 0, none⟩)] w fun e w' => e = .returned (.string ⟨l.toArray⟩) ∧ Below B w w' ∧ Oth b w w' := by
  obtain ⟨p, h1⟩ := h.some
  clear h
  obtain ⟨hB, v, hbk, hown, hne, hnil⟩ := h1
  rw [Lib.byteCells_length] at hown
  by_cases h0 : l = []
  · subst h0
    obtain rfl := hnil rfl
    have c1 : w.drew.cell? ⟨b, 1, none⟩ = some (.slice none 0 0) := by
      have : w.drew.heap[b]? = some (.cells #[p, .slice none 0 0, .int .i64 d] 61 (0, 0)) := hbk
      rw [Lib.cell_of_heap this]; rfl
    have hSD : (Builtin.unsafeSliceData_ #[57] 86 #[.slice none 0 0]).run Tryz.prog w.drew = .ok (.pointer none) w.drew := rfl
    have hUS : (Builtin.unsafeString_ #[86, 3] 9 #[.pointer none, .int .i64 0]).run Tryz.prog w.drew = .ok (.string .empty) w.drew := rfl
    clear hown hbk hne hnil
    go_enter Tryz.func19, Tryz.ntmps19
    go_wp2
    go_region
    all_goals (go_wp2; go_ret; exact ⟨rfl, Below.drew (Below.refl B w), (Lib.OthersKept.refl _ _ w).drew⟩)
  · have hl0 : l.length ≠ 0 := by simpa using h0
    obtain ⟨g, cap, cur, rfl, hbg, hg, hnc, hcm, hcs, htake⟩ : ∃ g cap cur, v = .slice (some ⟨g, 0, none⟩) l.length cap ∧ B ≤ g ∧ w.heap[g]? = some (.cells cur 5 (0, 0)) ∧ l.length ≤ cap ∧ cap ≤ maxLen ∧ cur.size = cap * 1 ∧ cur.toList.take (l.length * 1) = Lib.byteCells l := by
      rcases hown.2 with ⟨_, hz⟩ | ⟨g, cap, cur, hv, r⟩
      · exact absurd hz hl0
      · exact ⟨g, cap, cur, hv, r⟩
    have c1 : w.drew.cell? ⟨b, 1, none⟩ = some (.slice (some ⟨g, 0, none⟩) l.length cap) := by
      have : w.drew.heap[b]? = some (.cells #[p, .slice (some ⟨g, 0, none⟩) l.length cap, .int .i64 d] 61 (0, 0)) := hbk
      rw [Lib.cell_of_heap this]; rfl
    have hSD : (Builtin.unsafeSliceData_ #[57] 86 #[.slice (some ⟨g, 0, none⟩) l.length cap]).run Tryz.prog w.drew = .ok (.pointer (some ⟨g, 0, none⟩)) w.drew :=
      Lib.run_unsafeSliceData_row _ _ _ _ _ _ (by omega)
    have hUS : (Builtin.unsafeString_ #[86, 3] 9 #[.pointer (some ⟨g, 0, none⟩), .int .i64 l.length]).run Tryz.prog w.drew = .ok (.string ⟨l.toArray⟩) (w.drew.freeze ⟨g, 0, none⟩ l.length) := by
      refine Lib.run_unsafeString_row w.drew 86 3 9 5 Tryz.underlying86 Tryz.cellsByte g cur.size (by have hg' : w.drew.heap[g]? = some (.cells cur 5 (0, 0)) := hg; simp [World.shape?, hg']) l h0 (by omega) (by unfold maxLen at hcm; omega) ?_
      intro j x hx
      exact hown.cells (g := g) rfl j (.int .u8 x.toNat) (by simp [Lib.byteCells, hx])
    have HG : Hid (w.heap[g]? = some (.cells cur 5 (0, 0))) := hg
    clear hown hbk hne hnil hg htake
    go_enter Tryz.func19, Tryz.ntmps19
    go_wp2
    go_region
    all_goals (go_wp2; go_ret; exact ⟨rfl, Lib.below_freeze (Below.drew (Below.refl B w)) (p := ⟨g, 0, none⟩) hbg _, Lib.OthersKept.freeze ((Lib.OthersKept.refl _ _ w).drew) ⟨g, 0, none⟩ _ ⟨_, _, HG.out⟩⟩)
set_option maxRecDepth 100000 in
set_option maxHeartbeats 8000000 in
theorem print_ok (p : Pr) (w : World) (hin : p.In w) (ht : Tabs w) (hnt : NumT w) (hck : checkZ p = (0, 0, 0)) (hw16 : p.widen.length ≤ 16) (hf : ∀ f ∈ p.funcs, FnPr w f) (hlen : (txP p).length ≤ 65536) :
    Calls Tryz.prog 8 #[p.val] w fun e w' => e = .returned (.tuple #[sB (txP p), fltV 0 0 0]) ∧ Below w.heap.size w w' := by
  have HC : Hid (∀ w', Below w.heap.size w w' → Calls Tryz.prog 6 #[p.val] w' fun e w'' => e = .returned (fltV 0 0 0) ∧ Below w'.heap.size w' w'') := fun w' hb => by
    have := check_any p w' (hin.stay hb) (ht.stay hb)
    rw [hck] at this; exact this
  have HP : Hid (∀ b w', Below w.heap.size w w' → PgT w.heap.size b [] 0 w' → Calls Tryz.prog 17 #[.pointer (some ⟨b, 0, none⟩), p.val] w' fun e w'' => e = .returned (.tuple #[]) ∧ PgT w.heap.size b (txP p) 0 w'' ∧ Below w.heap.size w' w'' ∧ Oth b w' w'') := fun b w' hb hp => program_any w b w' p hb hp hin hnt hw16 hf (by omega)
  clear hin ht hnt hck hf
  unfold Pr.val at HC HP ⊢
  have hb1 := ((Below.refl _ w).alloc (Nat.le_refl _) (.cells #[.slice p.wa p.widen.length p.wc, .slice p.fa p.funcs.length p.fc] 25)).alloc (by simp) (.cells #[.int .i64 0, .int .i64 0, .int .i64 0] 29)
  go_enter Tryz.func8, Tryz.ntmps8
  go_wp2_with fail
  refine (HC.out _ hb1).mono ?_
  rintro e w1 ⟨rfl, hbc⟩
  obtain ⟨k1, k2⟩ := heap3 hbc
  have hb2 := Below.on hb1 hbc
  have hs1 : w.heap.size + 1 + 1 ≤ w1.heap.size := by have := hbc.size; simp at this; omega
  have c0 : w1.cell? ⟨w.heap.size, 0, none⟩ = some (.slice p.wa p.widen.length p.wc) := by rw [Lib.cell_of_heap k1]; rfl
  have c1 : w1.cell? ⟨w.heap.size, 1, none⟩ = some (.slice p.fa p.funcs.length p.fc) := by rw [Lib.cell_of_heap k1]; rfl
  have K2 : Hid (w1.heap[w.heap.size + 1]? = some (.cells #[.int .i64 0, .int .i64 0, .int .i64 0] 29 (0, 0))) := k2
  have hlt0 : w.heap.size < w1.heap.size := by omega
  have hlt1 : w.heap.size + 1 < w1.heap.size := by omega
  clear k1 k2 hbc hb1
  go_wp2_with fail
  have hbx := ((Below.refl _ w1).alloc (Nat.le_refl _) (.cells #[.int .i64 0, .int .i64 0, .int .i64 0] 29)).alloc (by simp) (.cells #[.pointer none, .slice none 0 0, .int .i64 0] 61)
  have hbn : ((w1.alloc (.cells #[.int .i64 0, .int .i64 0, .int .i64 0] 29)).alloc (.cells #[.pointer none, .slice none 0 0, .int .i64 0] 61)).heap[w1.heap.size + 1]? = some (.cells #[.pointer none, .slice none 0 0, .int .i64 0] 61 (0, 0)) := by
    have := heap_alloc_new (w1.alloc (.cells #[.int .i64 0, .int .i64 0, .int .i64 0] 29)) (.cells #[.pointer none, .slice none 0 0, .int .i64 0] 61)
    rwa [World.size_alloc] at this
  have hpg : PgT w.heap.size (w1.heap.size + 1) [] 0 ((w1.alloc (.cells #[.int .i64 0, .int .i64 0, .int .i64 0] 29)).alloc (.cells #[.pointer none, .slice none 0 0, .int .i64 0] 61)) :=
    .inl ⟨by omega, .slice none 0 0, hbn, World.ownsRow_nil _ _ _ _, by simp [Value.ownBlock], fun _ => rfl⟩
  have K3 : Hid (((w1.alloc (.cells #[.int .i64 0, .int .i64 0, .int .i64 0] 29)).alloc (.cells #[.pointer none, .slice none 0 0, .int .i64 0] 61)).heap[w.heap.size + 1]? = some (.cells #[.int .i64 0, .int .i64 0, .int .i64 0] 29 (0, 0))) := (hbx.block _ hlt1).trans K2.out
  have hbb := Below.on hb2 hbx
  refine (HP.out _ _ hbb hpg).mono ?_
  rintro e w2 ⟨rfl, hp2, hb3, ho3⟩
  have HP2 : Hid (PgT w.heap.size (w1.heap.size + 1) (txP p) 0 w2) := hp2
  have K4 : w2.heap[w.heap.size + 1]? = some (.cells #[.int .i64 0, .int .i64 0, .int .i64 0] 29 (0, 0)) := ho3 _ _ K3.out (by simp; omega) (fun c fz e => by cases e)
  have hb4 : Below w.heap.size w w2 := hbb.trans hb3
  clear hp2 hb3 ho3 hbn hpg hbx hbb c0 c1 K3 K2 hb2
  go_wp2_with fail
  refine (len_any _ _ _ _ _ HP2.out).mono ?_
  rintro e w3 ⟨rfl, rfl⟩
  have HL : Hid (((Lib.byteCells (txP p)).length : Int) ≤ 65536) := by show _ ≤ _; rw [Lib.byteCells_length]; omega
  have hll := HL.out
  generalize ((Lib.byteCells (txP p)).length : Int) = ln at hll ⊢
  have hll2 : ¬ 65536 < ln := by omega
  go_wp2_with fail
  refine (string_oth _ _ (txP p) _ _ HP2.out).mono ?_
  rintro e w4 ⟨rfl, hb5, ho5⟩
  have K5 : w4.heap[w.heap.size + 1]? = some (.cells #[.int .i64 0, .int .i64 0, .int .i64 0] 29 (0, 0)) := ho5 _ _ K4 (by simp; omega) (fun c fz e => by cases e)
  have r0 : w4.cell? ⟨w.heap.size + 1, 0, none⟩ = some (.int .i64 0) := by rw [Lib.cell_of_heap K5]; rfl
  have r1 : w4.cell? ⟨w.heap.size + 1, 1, none⟩ = some (.int .i64 0) := by rw [Lib.cell_of_heap K5]; rfl
  have r2 : w4.cell? ⟨w.heap.size + 1, 2, none⟩ = some (.int .i64 0) := by rw [Lib.cell_of_heap K5]; rfl
  have q0 : w4.frozen? ⟨w.heap.size + 1, 0, none⟩ = false := Lib.frozen_of_heap K5 0
  have q1 : w4.frozen? ⟨w.heap.size + 1, 1, none⟩ = false := Lib.frozen_of_heap K5 1
  have q2 : w4.frozen? ⟨w.heap.size + 1, 2, none⟩ = false := Lib.frozen_of_heap K5 2
  have hb6 := hb4.trans hb5
  clear K4 K5 ho5 hb5 hb4
  go_wp2_with fail
  refine bodyPost_ret (v := .tuple #[sB (txP p), fltV 0 0 0]) (by simp [results, Tryz.results8, go_sem, r0, r1, r2]) rfl ⟨rfl, below_set3 hb6 (by omega) _ _ _⟩
end Go.Proofs.YtbpemackmadhgaaGreatDoor
