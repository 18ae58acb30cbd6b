/- expr: the text of an expression that has a form. -/
import Derived.Test.YtbpemackmadhgabDoorPart3
import Derived.Test.YtbpemackmadhgabDoorPart2
namespace Go.Proofs.YtbpemackmadhgabDoor
open Go.RowKit Go.Sort

abbrev WithinOk (k : Nat) : Prop := ∀ (x : Ex) (least : Int) (w : World), x.sz ≤ k → x.In w → Tabs w → NumT w → OkE x → x.sz ≤ 1000000 → Calls Tryd.prog 96 #[x.val, .int .i64 least] w fun e w' => e = .returned (sB (wiB (rkE x.kind) least (txE x))) ∧ Below w.heap.size w w'
theorem seen_list {W0 : World} {b o sz i : Nat} {cs : List Value} (h : ∀ j v, cs[j]? = some v → W0.cell? ⟨b, o + (i * sz + j), none⟩ = some v) (j : Nat) (v : Value) (hj : cs[j]? = some v) : ∀ w', Below W0.heap.size W0 w' → w'.cell? ⟨b, o + (i * sz + j), none⟩ = some v := seen (h j v hj)
/-- The world behind both boxes. -/
def exW (kn n : Int) (s : ByteArray) (sl : Value) (fm : Form) (w : World) : World := (w.alloc (.cells #[.int .i64 kn, .int .i64 n, .string s, sl] 48)).alloc (.cells #[.int .i64 fm.fields, .int .i64 fm.args, .int .i64 fm.rank, .string fm.sign] 128)
theorem exW_facts (kn n : Int) (s : ByteArray) (sl : Value) (fm : Form) (w : World) : Below w.heap.size w (exW kn n s sl fm w) ∧ (exW kn n s sl fm w).cell? ⟨w.heap.size, 0, none⟩ = some (.int .i64 kn) ∧ (exW kn n s sl fm w).cell? ⟨w.heap.size, 1, none⟩ = some (.int .i64 n) ∧ (exW kn n s sl fm w).cell? ⟨w.heap.size, 2, none⟩ = some (.string s) ∧ (exW kn n s sl fm w).cell? ⟨w.heap.size, 3, none⟩ = some sl ∧ (exW kn n s sl fm w).cell? ⟨w.heap.size + 1, 2, none⟩ = some (.int .i64 fm.rank) ∧ (exW kn n s sl fm w).cell? ⟨w.heap.size + 1, 3, none⟩ = some (.string fm.sign) := by
  unfold exW
  have h1 : ∀ j, ((w.alloc (.cells #[.int .i64 kn, .int .i64 n, .string s, sl] 48)).alloc (.cells #[.int .i64 fm.fields, .int .i64 fm.args, .int .i64 fm.rank, .string fm.sign] 128)).cell? ⟨w.heap.size, j, none⟩ = (#[.int .i64 kn, .int .i64 n, .string s, sl] : Array Value)[j]? := fun j => by
    rw [World.cell?_alloc_past _ _ _ (by simp), World.cell?_alloc_at _ _ _ _ rfl]
  have h2 : ∀ j, ((w.alloc (.cells #[.int .i64 kn, .int .i64 n, .string s, sl] 48)).alloc (.cells #[.int .i64 fm.fields, .int .i64 fm.args, .int .i64 fm.rank, .string fm.sign] 128)).cell? ⟨w.heap.size + 1, j, none⟩ = (#[.int .i64 fm.fields, .int .i64 fm.args, .int .i64 fm.rank, .string fm.sign] : Array Value)[j]? := fun j => by
    rw [World.cell?_alloc_at _ _ _ _ (by simp)]
  exact ⟨((Below.refl _ w).alloc (Nat.le_refl _) _).alloc (by simp) _, h1 0, h1 1, h1 2, h1 3, h2 2, h2 3⟩

theorem row_0 {W : World} {a : Option Addr} {y : Ex} {r : List Ex} (h : RowIn W a 4 ((y :: r).map Ex.cells)) : ∃ b o, a = some ⟨b, o, none⟩ ∧ W.cell? ⟨b, o, none⟩ = some (.int .i64 y.kind) ∧ W.cell? ⟨b, o + 1, none⟩ = some (.int .i64 y.n) ∧ W.cell? ⟨b, o + 2, none⟩ = some (.string y.name) ∧ W.cell? ⟨b, o + 3, none⟩ = some (.slice y.a y.args.length y.cap) := by
  obtain ⟨b, o, e, hc⟩ := h 0 y.cells rfl
  exact ⟨b, o, e, hc 0 _ rfl, hc 1 _ rfl, hc 2 _ rfl, hc 3 _ rfl⟩
theorem row_1 {W : World} {a : Option Addr} {x y : Ex} {r : List Ex} (h : RowIn W a 4 ((x :: y :: r).map Ex.cells)) : ∃ b o, a = some ⟨b, o, none⟩ ∧ W.cell? ⟨b, o + 4, none⟩ = some (.int .i64 y.kind) ∧ W.cell? ⟨b, o + 5, none⟩ = some (.int .i64 y.n) ∧ W.cell? ⟨b, o + 6, none⟩ = some (.string y.name) ∧ W.cell? ⟨b, o + 7, none⟩ = some (.slice y.a y.args.length y.cap) := by
  obtain ⟨b, o, e, hc⟩ := h 1 y.cells rfl
  exact ⟨b, o, e, hc 0 _ rfl, hc 1 _ rfl, hc 2 _ rfl, hc 3 _ rfl⟩
theorem row_2 {W : World} {a : Option Addr} {x z y : Ex} {r : List Ex} (h : RowIn W a 4 ((x :: z :: y :: r).map Ex.cells)) : ∃ b o, a = some ⟨b, o, none⟩ ∧ W.cell? ⟨b, o + 8, none⟩ = some (.int .i64 y.kind) ∧ W.cell? ⟨b, o + 9, none⟩ = some (.int .i64 y.n) ∧ W.cell? ⟨b, o + 10, none⟩ = some (.string y.name) ∧ W.cell? ⟨b, o + 11, none⟩ = some (.slice y.a y.args.length y.cap) := by
  obtain ⟨b, o, e, hc⟩ := h 2 y.cells rfl
  exact ⟨b, o, e, hc 0 _ rfl, hc 1 _ rfl, hc 2 _ rfl, hc 3 _ rfl⟩
theorem rank_bd (k : Nat) (h : k < 21) : 0 ≤ (formE k).rank ∧ (formE k).rank ≤ 9 := by
  have : ∀ k, k < 21 → 0 ≤ (formE k).rank ∧ (formE k).rank ≤ 9 := by decide
  exact this k h
theorem tx3 (n : Int) (s : ByteArray) (a : Option Addr) (c : Nat) (y : Ex) : cat [s, ⟨#[91]⟩, ⟨(txE y).toArray⟩, ⟨#[93]⟩] = txE (Ex.mk 3 n s a c [y]) := by
  rw [txE_eq (Ex.mk 3 n s a c [y])]; show _ = txOf 3 n s [y.kind] [txE y]
  rw [txOf, if_neg (by decide), if_neg (by decide), if_pos rfl]; simp [cat]
theorem tx4 (n : Int) (s : ByteArray) (a : Option Addr) (c : Nat) (l : List Ex) : cat [s, ⟨#[40]⟩, ⟨(comB (l.map txE)).toArray⟩, ⟨#[41]⟩] = txE (Ex.mk 4 n s a c l) := by
  rw [txE_eq (Ex.mk 4 n s a c l)]; show _ = txOf 4 n s (l.map Ex.kind) (l.map txE)
  rw [txOf, if_neg (by decide), if_neg (by decide), if_neg (by decide), if_pos rfl]; simp [cat]
theorem tx56 (k n : Int) (hk : k = 5 ∨ k = 6) (s : ByteArray) (a : Option Addr) (c : Nat) (y : Ex) : cat [⟨(sgE k).toArray⟩, ⟨(wiB (rkE y.kind) (rkE k) (txE y)).toArray⟩] = txE (Ex.mk k n s a c [y]) := by
  rw [txE_eq (Ex.mk k n s a c [y])]; show _ = txOf k n s [y.kind] [txE y]
  rw [txOf, if_neg (by omega), if_neg (by omega), if_neg (by omega), if_neg (by omega), if_pos hk]; simp [cat]
theorem tx20 (n : Int) (s : ByteArray) (a : Option Addr) (c : Nat) (x y z : Ex) : cat [⟨(wiB (rkE x.kind) (rkE 20 + 1) (txE x)).toArray⟩, ⟨#[32, 63, 32]⟩, ⟨(txE y).toArray⟩, ⟨#[32, 58, 32]⟩, ⟨(txE z).toArray⟩] = txE (Ex.mk 20 n s a c [x, y, z]) := by
  rw [txE_eq (Ex.mk 20 n s a c [x, y, z])]; show _ = txOf 20 n s [x.kind, y.kind, z.kind] [txE x, txE y, txE z]
  rw [txOf, if_neg (by decide), if_neg (by decide), if_neg (by decide), if_neg (by decide), if_neg (by decide), if_pos rfl]; simp [cat]
theorem tx2 (k n : Int) (hk : 7 ≤ k) (hk' : k ≤ 19) (s : ByteArray) (a : Option Addr) (c : Nat) (x y : Ex) : cat [⟨(wiB (rkE x.kind) (rkE k) (txE x)).toArray⟩, ⟨#[32]⟩, ⟨(sgE k).toArray⟩, ⟨#[32]⟩, ⟨(wiB (rkE y.kind) (rkE k + 1) (txE y)).toArray⟩] = txE (Ex.mk k n s a c [x, y]) := by
  rw [txE_eq (Ex.mk k n s a c [x, y])]; show _ = txOf k n s [x.kind, y.kind] [txE x, txE y]
  rw [txOf, if_neg (by omega), if_neg (by omega), if_neg (by omega), if_neg (by omega), if_neg (by omega), if_neg (by omega)]; simp [cat]

set_option maxRecDepth 100000 in
set_option maxHeartbeats 8000000 in
theorem expr3 (k : Nat) (h1 : ExprOk k) (n : Int) (s : ByteArray) (a : Option Addr) (c : Nat) (y : Ex) (w : World) (hk : (Ex.mk 3 n s a c [y]).sz ≤ k + 1) (hin : (Ex.mk 3 n s a c [y]).In w) (ht : Tabs w) (hnt : NumT w) (hok : OkE (Ex.mk 3 n s a c [y])) (hsz : (Ex.mk 3 n s a c [y]).sz ≤ 1000000) :
    Calls Tryd.prog 81 #[(Ex.mk 3 n s a c [y]).val] w fun e w' => e = .returned (sB (txE (Ex.mk 3 n s a c [y]))) ∧ Below w.heap.size w w' := by
  have hlen := txE_len (w := w) _ _ (Nat.le_refl _) hin hok
  have hz := (Ex.mk 3 n s a c [y]).sz_args
  simp only [Ex.args, szL] at hz
  have hin' := Ex.in_iff.1 hin
  simp only [Ex.kind, Ex.n, Ex.name, Ex.a, Ex.cap, Ex.args] at hin'
  obtain ⟨_, _, _, _, _, _, hrow, hsub⟩ := hin'
  have hoks := hok.parts.2
  simp only [Ex.args] at hoks
  have HC : Hid (cat [s, ⟨#[91]⟩, ⟨(txE y).toArray⟩, ⟨#[93]⟩] = txE (Ex.mk 3 n s a c [y])) := tx3 n s a c y
  have HLEN : Hid ((cat [s, ⟨#[91]⟩, ⟨(txE y).toArray⟩, ⟨#[93]⟩]).length ≤ 140737488355328) := by show _ ≤ _; rw [HC.out]; omega
  have HY : Hid (∀ w', Below w.heap.size w w' → Calls Tryd.prog 81 #[.agg #[.int .i64 y.kind, .int .i64 y.n, .string y.name, .slice y.a y.args.length y.cap]] w' fun e w'' => e = .returned (sB (txE y)) ∧ Below w'.heap.size w' w'') := fun w' hb => h1 y w' (by omega) ((hsub y (by simp)).stay hb) (ht.stay hb) (hnt.stay hb) (hoks y (by simp)) (by omega)
  obtain ⟨t0, t1, t2, t3⟩ := ht.2 3 (by omega)
  have h1w : 1 < w.heap.size := lt_of_cell t0
  obtain ⟨b, o, rfl, c0, c1, c2, c3⟩ := row_0 hrow
  clear h1 hin ht hnt hok hrow hsub hoks
  unfold Ex.val
  simp only [Ex.kind, Ex.n, Ex.name, Ex.a, Ex.cap, Ex.args]
  go_enter Tryd.func81, Tryd.ntmps81
  go_wp2_with fail
  obtain ⟨hb0, x0, x1, x2, x3, f2, f3⟩ := exW_facts 3 n s (.slice (some ⟨b, o, none⟩) 1 c) (formE 3) w
  obtain ⟨W0, hW0⟩ : ∃ W0, exW 3 n s (.slice (some ⟨b, o, none⟩) 1 c) (formE 3) w = W0 := ⟨_, rfl⟩
  rw [hW0] at hb0 x0 x1 x2 x3 f2 f3
  unfold exW at hW0
  rw [hW0]
  have HB0 : Hid (Below w.heap.size w W0) := hb0
  have c0 := seen ((hb0.cell (lt_of_cell c0)).trans c0)
  have c1 := seen ((hb0.cell (lt_of_cell c1)).trans c1)
  have c2 := seen ((hb0.cell (lt_of_cell c2)).trans c2)
  have c3 := seen ((hb0.cell (lt_of_cell c3)).trans c3)
  have x2 := seen x2
  have x3 := seen x3
  have f2 := seen f2
  have f3 := seen f3
  clear hW0 hb0 x0 x1 t0 t1 t2 t3 h1w hk hsz hlen hz
  go_region_held3 (fun w' => Below W0.heap.size W0 w') (first | exact Below.drew (Below.refl _ _) | exact Below.on (by assumption) (by assumption) | exact Below.one (by assumption) _)
    (first
      | (go_at_call 81; (first | (refine (HY.out _ (Below.on HB0.out (by assumption))).mono ?_)); rintro e w' ⟨rfl, hb⟩)
      | (go_at_call 63; refine (join_new [s, ⟨#[91]⟩, ⟨(txE y).toArray⟩, ⟨#[93]⟩] _ (Nat.le_of_ble_eq_true rfl) HLEN.out).mono ?_; rintro e w' ⟨rfl, hb⟩))
  all_goals go_wp2_with fail
  all_goals go_ret
  all_goals exact ⟨ret_str HC.out, Below.on HB0.out (by assumption)⟩

set_option maxRecDepth 100000 in
set_option maxHeartbeats 8000000 in
theorem expr5 (k : Nat) (h2 : WithinOk k) (n : Int) (s : ByteArray) (a : Option Addr) (c : Nat) (y : Ex) (w : World) (hk : (Ex.mk 5 n s a c [y]).sz ≤ k + 1) (hin : (Ex.mk 5 n s a c [y]).In w) (ht : Tabs w) (hnt : NumT w) (hok : OkE (Ex.mk 5 n s a c [y])) (hsz : (Ex.mk 5 n s a c [y]).sz ≤ 1000000) :
    Calls Tryd.prog 81 #[(Ex.mk 5 n s a c [y]).val] w fun e w' => e = .returned (sB (txE (Ex.mk 5 n s a c [y]))) ∧ Below w.heap.size w w' := by
  have hlen := txE_len (w := w) _ _ (Nat.le_refl _) hin hok
  have hz := (Ex.mk 5 n s a c [y]).sz_args
  simp only [Ex.args, szL] at hz
  have hin' := Ex.in_iff.1 hin
  simp only [Ex.kind, Ex.n, Ex.name, Ex.a, Ex.cap, Ex.args] at hin'
  obtain ⟨_, _, _, _, _, _, hrow, hsub⟩ := hin'
  have hoks := hok.parts.2
  simp only [Ex.args] at hoks
  have HC : Hid (cat [(formE 5).sign, ⟨(wiB (rkE y.kind) (formE 5).rank (txE y)).toArray⟩] = txE (Ex.mk 5 n s a c [y])) := tx56 5 n (.inl rfl) s a c y
  have HLEN : Hid ((cat [(formE 5).sign, ⟨(wiB (rkE y.kind) (formE 5).rank (txE y)).toArray⟩]).length ≤ 140737488355328) := by show _ ≤ _; rw [HC.out]; omega
  have HY : Hid (∀ w', Below w.heap.size w w' → Calls Tryd.prog 96 #[.agg #[.int .i64 y.kind, .int .i64 y.n, .string y.name, .slice y.a y.args.length y.cap], .int .i64 (formE 5).rank] w' fun e w'' => e = .returned (sB (wiB (rkE y.kind) (formE 5).rank (txE y))) ∧ Below w'.heap.size w' w'') := fun w' hb => h2 y ((formE 5).rank) w' (by omega) ((hsub y (by simp)).stay hb) (ht.stay hb) (hnt.stay hb) (hoks y (by simp)) (by omega)
  obtain ⟨t0, t1, t2, t3⟩ := ht.2 5 (by omega)
  have h1w : 1 < w.heap.size := lt_of_cell t0
  obtain ⟨b, o, rfl, c0, c1, c2, c3⟩ := row_0 hrow
  clear h2 hin ht hnt hok hrow hsub hoks
  unfold Ex.val
  simp only [Ex.kind, Ex.n, Ex.name, Ex.a, Ex.cap, Ex.args]
  go_enter Tryd.func81, Tryd.ntmps81
  go_wp2_with fail
  obtain ⟨hb0, x0, x1, x2, x3, f2, f3⟩ := exW_facts 5 n s (.slice (some ⟨b, o, none⟩) 1 c) (formE 5) w
  obtain ⟨W0, hW0⟩ : ∃ W0, exW 5 n s (.slice (some ⟨b, o, none⟩) 1 c) (formE 5) w = W0 := ⟨_, rfl⟩
  rw [hW0] at hb0 x0 x1 x2 x3 f2 f3
  unfold exW at hW0
  rw [hW0]
  have HB0 : Hid (Below w.heap.size w W0) := hb0
  have c0 := seen ((hb0.cell (lt_of_cell c0)).trans c0)
  have c1 := seen ((hb0.cell (lt_of_cell c1)).trans c1)
  have c2 := seen ((hb0.cell (lt_of_cell c2)).trans c2)
  have c3 := seen ((hb0.cell (lt_of_cell c3)).trans c3)
  have x2 := seen x2
  have x3 := seen x3
  have f2 := seen f2
  have f3 := seen f3
  clear hW0 hb0 x0 x1 t0 t1 t2 t3 h1w hk hsz hlen hz
  go_region_held3 (fun w' => Below W0.heap.size W0 w') (first | exact Below.drew (Below.refl _ _) | exact Below.on (by assumption) (by assumption) | exact Below.one (by assumption) _)
    (first
      | (go_at_call 96; (first | (refine (HY.out _ (Below.on HB0.out (by assumption))).mono ?_)); rintro e w' ⟨rfl, hb⟩)
      | (go_at_call 63; refine (join_new [(formE 5).sign, ⟨(wiB (rkE y.kind) (formE 5).rank (txE y)).toArray⟩] _ (Nat.le_of_ble_eq_true rfl) HLEN.out).mono ?_; rintro e w' ⟨rfl, hb⟩))
  all_goals go_wp2_with fail
  all_goals go_ret
  all_goals exact ⟨ret_str HC.out, Below.on HB0.out (by assumption)⟩

set_option maxRecDepth 100000 in
set_option maxHeartbeats 8000000 in
theorem expr6 (k : Nat) (h2 : WithinOk k) (n : Int) (s : ByteArray) (a : Option Addr) (c : Nat) (y : Ex) (w : World) (hk : (Ex.mk 6 n s a c [y]).sz ≤ k + 1) (hin : (Ex.mk 6 n s a c [y]).In w) (ht : Tabs w) (hnt : NumT w) (hok : OkE (Ex.mk 6 n s a c [y])) (hsz : (Ex.mk 6 n s a c [y]).sz ≤ 1000000) :
    Calls Tryd.prog 81 #[(Ex.mk 6 n s a c [y]).val] w fun e w' => e = .returned (sB (txE (Ex.mk 6 n s a c [y]))) ∧ Below w.heap.size w w' := by
  have hlen := txE_len (w := w) _ _ (Nat.le_refl _) hin hok
  have hz := (Ex.mk 6 n s a c [y]).sz_args
  simp only [Ex.args, szL] at hz
  have hin' := Ex.in_iff.1 hin
  simp only [Ex.kind, Ex.n, Ex.name, Ex.a, Ex.cap, Ex.args] at hin'
  obtain ⟨_, _, _, _, _, _, hrow, hsub⟩ := hin'
  have hoks := hok.parts.2
  simp only [Ex.args] at hoks
  have HC : Hid (cat [(formE 6).sign, ⟨(wiB (rkE y.kind) (formE 6).rank (txE y)).toArray⟩] = txE (Ex.mk 6 n s a c [y])) := tx56 6 n (.inr rfl) s a c y
  have HLEN : Hid ((cat [(formE 6).sign, ⟨(wiB (rkE y.kind) (formE 6).rank (txE y)).toArray⟩]).length ≤ 140737488355328) := by show _ ≤ _; rw [HC.out]; omega
  have HY : Hid (∀ w', Below w.heap.size w w' → Calls Tryd.prog 96 #[.agg #[.int .i64 y.kind, .int .i64 y.n, .string y.name, .slice y.a y.args.length y.cap], .int .i64 (formE 6).rank] w' fun e w'' => e = .returned (sB (wiB (rkE y.kind) (formE 6).rank (txE y))) ∧ Below w'.heap.size w' w'') := fun w' hb => h2 y ((formE 6).rank) w' (by omega) ((hsub y (by simp)).stay hb) (ht.stay hb) (hnt.stay hb) (hoks y (by simp)) (by omega)
  obtain ⟨t0, t1, t2, t3⟩ := ht.2 6 (by omega)
  have h1w : 1 < w.heap.size := lt_of_cell t0
  obtain ⟨b, o, rfl, c0, c1, c2, c3⟩ := row_0 hrow
  clear h2 hin ht hnt hok hrow hsub hoks
  unfold Ex.val
  simp only [Ex.kind, Ex.n, Ex.name, Ex.a, Ex.cap, Ex.args]
  go_enter Tryd.func81, Tryd.ntmps81
  go_wp2_with fail
  obtain ⟨hb0, x0, x1, x2, x3, f2, f3⟩ := exW_facts 6 n s (.slice (some ⟨b, o, none⟩) 1 c) (formE 6) w
  obtain ⟨W0, hW0⟩ : ∃ W0, exW 6 n s (.slice (some ⟨b, o, none⟩) 1 c) (formE 6) w = W0 := ⟨_, rfl⟩
  rw [hW0] at hb0 x0 x1 x2 x3 f2 f3
  unfold exW at hW0
  rw [hW0]
  have HB0 : Hid (Below w.heap.size w W0) := hb0
  have c0 := seen ((hb0.cell (lt_of_cell c0)).trans c0)
  have c1 := seen ((hb0.cell (lt_of_cell c1)).trans c1)
  have c2 := seen ((hb0.cell (lt_of_cell c2)).trans c2)
  have c3 := seen ((hb0.cell (lt_of_cell c3)).trans c3)
  have x2 := seen x2
  have x3 := seen x3
  have f2 := seen f2
  have f3 := seen f3
  clear hW0 hb0 x0 x1 t0 t1 t2 t3 h1w hk hsz hlen hz
  go_region_held3 (fun w' => Below W0.heap.size W0 w') (first | exact Below.drew (Below.refl _ _) | exact Below.on (by assumption) (by assumption) | exact Below.one (by assumption) _)
    (first
      | (go_at_call 96; (first | (refine (HY.out _ (Below.on HB0.out (by assumption))).mono ?_)); rintro e w' ⟨rfl, hb⟩)
      | (go_at_call 63; refine (join_new [(formE 6).sign, ⟨(wiB (rkE y.kind) (formE 6).rank (txE y)).toArray⟩] _ (Nat.le_of_ble_eq_true rfl) HLEN.out).mono ?_; rintro e w' ⟨rfl, hb⟩))
  all_goals go_wp2_with fail
  all_goals go_ret
  all_goals exact ⟨ret_str HC.out, Below.on HB0.out (by assumption)⟩
end Go.Proofs.YtbpemackmadhgabDoor

/- expr, at more kinds. -/
namespace Go.Proofs.YtbpemackmadhgabDoor
open Go.RowKit Go.Sort

set_option maxRecDepth 100000 in
set_option maxHeartbeats 8000000 in
theorem expr20 (k : Nat) (h1 : ExprOk k) (h2 : WithinOk k) (n : Int) (s : ByteArray) (a : Option Addr) (c : Nat) (x y z : Ex) (w : World) (hk : (Ex.mk 20 n s a c [x, y, z]).sz ≤ k + 1) (hin : (Ex.mk 20 n s a c [x, y, z]).In w) (ht : Tabs w) (hnt : NumT w) (hok : OkE (Ex.mk 20 n s a c [x, y, z])) (hsz : (Ex.mk 20 n s a c [x, y, z]).sz ≤ 1000000) :
    Calls Tryd.prog 81 #[(Ex.mk 20 n s a c [x, y, z]).val] w fun e w' => e = .returned (sB (txE (Ex.mk 20 n s a c [x, y, z]))) ∧ Below w.heap.size w w' := by
  have hlen := txE_len (w := w) _ _ (Nat.le_refl _) hin hok
  have hz := (Ex.mk 20 n s a c [x, y, z]).sz_args
  simp only [Ex.args, szL] at hz
  have hin' := Ex.in_iff.1 hin
  simp only [Ex.kind, Ex.n, Ex.name, Ex.a, Ex.cap, Ex.args] at hin'
  obtain ⟨_, _, _, _, _, _, hrow, hsub⟩ := hin'
  have hoks := hok.parts.2
  simp only [Ex.args] at hoks
  have HC : Hid (cat [⟨(wiB (rkE x.kind) ((formE 20).rank + 1) (txE x)).toArray⟩, ⟨#[32, 63, 32]⟩, ⟨(txE y).toArray⟩, ⟨#[32, 58, 32]⟩, ⟨(txE z).toArray⟩] = txE (Ex.mk 20 n s a c [x, y, z])) := tx20 n s a c x y z
  have HLEN : Hid ((cat [⟨(wiB (rkE x.kind) ((formE 20).rank + 1) (txE x)).toArray⟩, ⟨#[32, 63, 32]⟩, ⟨(txE y).toArray⟩, ⟨#[32, 58, 32]⟩, ⟨(txE z).toArray⟩]).length ≤ 140737488355328) := by show _ ≤ _; rw [HC.out]; omega
  have HX : Hid (∀ w', Below w.heap.size w w' → Calls Tryd.prog 96 #[.agg #[.int .i64 x.kind, .int .i64 x.n, .string x.name, .slice x.a x.args.length x.cap], .int .i64 ((formE 20).rank + 1)] w' fun e w'' => e = .returned (sB (wiB (rkE x.kind) ((formE 20).rank + 1) (txE x))) ∧ Below w'.heap.size w' w'') := fun w' hb => h2 x ((formE 20).rank + 1) w' (by omega) ((hsub x (by simp)).stay hb) (ht.stay hb) (hnt.stay hb) (hoks x (by simp)) (by omega)
  have HY : Hid (∀ w', Below w.heap.size w w' → Calls Tryd.prog 81 #[.agg #[.int .i64 y.kind, .int .i64 y.n, .string y.name, .slice y.a y.args.length y.cap]] w' fun e w'' => e = .returned (sB (txE y)) ∧ Below w'.heap.size w' w'') := fun w' hb => h1 y w' (by omega) ((hsub y (by simp)).stay hb) (ht.stay hb) (hnt.stay hb) (hoks y (by simp)) (by omega)
  have HZ : Hid (∀ w', Below w.heap.size w w' → Calls Tryd.prog 81 #[.agg #[.int .i64 z.kind, .int .i64 z.n, .string z.name, .slice z.a z.args.length z.cap]] w' fun e w'' => e = .returned (sB (txE z)) ∧ Below w'.heap.size w' w'') := fun w' hb => h1 z w' (by omega) ((hsub z (by simp)).stay hb) (ht.stay hb) (hnt.stay hb) (hoks z (by simp)) (by omega)
  obtain ⟨t0, t1, t2, t3⟩ := ht.2 20 (by omega)
  have h1w : 1 < w.heap.size := lt_of_cell t0
  obtain ⟨b, o, rfl, c0, c1, c2, c3⟩ := row_0 hrow
  obtain ⟨b1, o1, he1, d0, d1, d2, d3⟩ := row_1 hrow
  cases he1
  obtain ⟨b2, o2, he2, e0, e1, e2, e3⟩ := row_2 hrow
  cases he2
  have hwr : IntKind.i64.wrap ((formE 20).rank + 1) = (formE 20).rank + 1 := by rw [IntKind.wrap_i64]; have := rank_bd 20 (by omega); omega
  clear h1 h2 hin ht hnt hok hrow hsub hoks
  unfold Ex.val
  simp only [Ex.kind, Ex.n, Ex.name, Ex.a, Ex.cap, Ex.args]
  go_enter Tryd.func81, Tryd.ntmps81
  go_wp2_with fail
  obtain ⟨hb0, x0, x1, x2, x3, f2, f3⟩ := exW_facts 20 n s (.slice (some ⟨b, o, none⟩) 3 c) (formE 20) w
  obtain ⟨W0, hW0⟩ : ∃ W0, exW 20 n s (.slice (some ⟨b, o, none⟩) 3 c) (formE 20) w = W0 := ⟨_, rfl⟩
  rw [hW0] at hb0 x0 x1 x2 x3 f2 f3
  unfold exW at hW0
  rw [hW0]
  have HB0 : Hid (Below w.heap.size w W0) := hb0
  have c0 := seen ((hb0.cell (lt_of_cell c0)).trans c0)
  have c1 := seen ((hb0.cell (lt_of_cell c1)).trans c1)
  have c2 := seen ((hb0.cell (lt_of_cell c2)).trans c2)
  have c3 := seen ((hb0.cell (lt_of_cell c3)).trans c3)
  have d0 := seen ((hb0.cell (lt_of_cell d0)).trans d0)
  have d1 := seen ((hb0.cell (lt_of_cell d1)).trans d1)
  have d2 := seen ((hb0.cell (lt_of_cell d2)).trans d2)
  have d3 := seen ((hb0.cell (lt_of_cell d3)).trans d3)
  have e0 := seen ((hb0.cell (lt_of_cell e0)).trans e0)
  have e1 := seen ((hb0.cell (lt_of_cell e1)).trans e1)
  have e2 := seen ((hb0.cell (lt_of_cell e2)).trans e2)
  have e3 := seen ((hb0.cell (lt_of_cell e3)).trans e3)
  have x2 := seen x2
  have x3 := seen x3
  have f2 := seen f2
  have f3 := seen f3
  clear hW0 hb0 x0 x1 t0 t1 t2 t3 h1w hk hsz hlen hz
  go_region_held3 (fun w' => Below W0.heap.size W0 w') (first | exact Below.drew (Below.refl _ _) | exact Below.on (by assumption) (by assumption) | exact Below.one (by assumption) _)
    (first
      | (go_at_call_of 96 (x.kind); refine (HX.out _ (Below.on HB0.out (by assumption))).mono ?_; rintro e w' ⟨rfl, hb⟩)
      | (go_at_call_of 81 (y.kind); refine (HY.out _ (Below.on HB0.out (by assumption))).mono ?_; rintro e w' ⟨rfl, hb⟩)
      | (go_at_call_of 81 (z.kind); refine (HZ.out _ (Below.on HB0.out (by assumption))).mono ?_; rintro e w' ⟨rfl, hb⟩)
      | (go_at_call 63; refine (join_new [⟨(wiB (rkE x.kind) ((formE 20).rank + 1) (txE x)).toArray⟩, ⟨#[32, 63, 32]⟩, ⟨(txE y).toArray⟩, ⟨#[32, 58, 32]⟩, ⟨(txE z).toArray⟩] _ (Nat.le_of_ble_eq_true rfl) HLEN.out).mono ?_; rintro e w' ⟨rfl, hb⟩))
  all_goals go_wp2_with fail
  all_goals go_ret
  all_goals exact ⟨ret_str HC.out, Below.on HB0.out (by assumption)⟩
end Go.Proofs.YtbpemackmadhgabDoor

/- expr, at more kinds. -/
namespace Go.Proofs.YtbpemackmadhgabDoor
open Go.RowKit Go.Sort

set_option maxRecDepth 100000 in
set_option maxHeartbeats 8000000 in
theorem exprTwo (k : Nat) (h2 : WithinOk k) (kn : Nat) (hkl : 7 ≤ kn) (hkh : kn ≤ 19) (n : Int) (s : ByteArray) (a : Option Addr) (c : Nat) (x y : Ex) (w : World) (hk : (Ex.mk kn n s a c [x, y]).sz ≤ k + 1) (hin : (Ex.mk kn n s a c [x, y]).In w) (ht : Tabs w) (hnt : NumT w) (hok : OkE (Ex.mk kn n s a c [x, y])) (hsz : (Ex.mk kn n s a c [x, y]).sz ≤ 1000000) :
    Calls Tryd.prog 81 #[(Ex.mk kn n s a c [x, y]).val] w fun e w' => e = .returned (sB (txE (Ex.mk kn n s a c [x, y]))) ∧ Below w.heap.size w w' := by
  have hlen := txE_len (w := w) _ _ (Nat.le_refl _) hin hok
  have hz := (Ex.mk kn n s a c [x, y]).sz_args
  simp only [Ex.args, szL] at hz
  have hin' := Ex.in_iff.1 hin
  simp only [Ex.kind, Ex.n, Ex.name, Ex.a, Ex.cap, Ex.args] at hin'
  obtain ⟨_, _, _, _, _, _, hrow, hsub⟩ := hin'
  have hoks := hok.parts.2
  simp only [Ex.args] at hoks
  have HC : Hid (cat [⟨(wiB (rkE x.kind) (formE kn).rank (txE x)).toArray⟩, ⟨#[32]⟩, (formE kn).sign, ⟨#[32]⟩, ⟨(wiB (rkE y.kind) ((formE kn).rank + 1) (txE y)).toArray⟩] = txE (Ex.mk kn n s a c [x, y])) := tx2 kn n (by omega) (by omega) s a c x y
  have HLEN : Hid ((cat [⟨(wiB (rkE x.kind) (formE kn).rank (txE x)).toArray⟩, ⟨#[32]⟩, (formE kn).sign, ⟨#[32]⟩, ⟨(wiB (rkE y.kind) ((formE kn).rank + 1) (txE y)).toArray⟩]).length ≤ 140737488355328) := by show _ ≤ _; rw [HC.out]; omega
  have HX : Hid (∀ w', Below w.heap.size w w' → Calls Tryd.prog 96 #[.agg #[.int .i64 x.kind, .int .i64 x.n, .string x.name, .slice x.a x.args.length x.cap], .int .i64 (formE kn).rank] w' fun e w'' => e = .returned (sB (wiB (rkE x.kind) (formE kn).rank (txE x))) ∧ Below w'.heap.size w' w'') := fun w' hb => h2 x ((formE kn).rank) w' (by omega) ((hsub x (by simp)).stay hb) (ht.stay hb) (hnt.stay hb) (hoks x (by simp)) (by omega)
  have HY : Hid (∀ w', Below w.heap.size w w' → Calls Tryd.prog 96 #[.agg #[.int .i64 y.kind, .int .i64 y.n, .string y.name, .slice y.a y.args.length y.cap], .int .i64 ((formE kn).rank + 1)] w' fun e w'' => e = .returned (sB (wiB (rkE y.kind) ((formE kn).rank + 1) (txE y))) ∧ Below w'.heap.size w' w'') := fun w' hb => h2 y ((formE kn).rank + 1) w' (by omega) ((hsub y (by simp)).stay hb) (ht.stay hb) (hnt.stay hb) (hoks y (by simp)) (by omega)
  obtain ⟨t0, t1, t2, t3⟩ := ht.2 kn (by omega)
  have h1w : 1 < w.heap.size := lt_of_cell t0
  obtain ⟨b, o, rfl, c0, c1, c2, c3⟩ := row_0 hrow
  obtain ⟨b1, o1, he1, d0, d1, d2, d3⟩ := row_1 hrow
  cases he1
  have q1 : ((kn : Int) == 1) = false := by simp only [beq_eq_false_iff_ne]; omega
  have q2 : ((kn : Int) == 2) = false := by simp only [beq_eq_false_iff_ne]; omega
  have q3 : ((kn : Int) == 3) = false := by simp only [beq_eq_false_iff_ne]; omega
  have q4 : ((kn : Int) == 4) = false := by simp only [beq_eq_false_iff_ne]; omega
  have q5 : ((kn : Int) == 5) = false := by simp only [beq_eq_false_iff_ne]; omega
  have q6 : ((kn : Int) == 6) = false := by simp only [beq_eq_false_iff_ne]; omega
  have q20 : ((kn : Int) == 20) = false := by simp only [beq_eq_false_iff_ne]; omega
  have hwr : IntKind.i64.wrap ((formE kn).rank + 1) = (formE kn).rank + 1 := by rw [IntKind.wrap_i64]; have := rank_bd kn (by omega); omega
  clear h2 hin ht hnt hok hrow hsub hoks
  unfold Ex.val
  simp only [Ex.kind, Ex.n, Ex.name, Ex.a, Ex.cap, Ex.args]
  go_enter Tryd.func81, Tryd.ntmps81
  go_wp2_with fail
  obtain ⟨hb0, x0, x1, x2, x3, f2, f3⟩ := exW_facts kn n s (.slice (some ⟨b, o, none⟩) 2 c) (formE kn) w
  obtain ⟨W0, hW0⟩ : ∃ W0, exW kn n s (.slice (some ⟨b, o, none⟩) 2 c) (formE kn) w = W0 := ⟨_, rfl⟩
  rw [hW0] at hb0 x0 x1 x2 x3 f2 f3
  unfold exW at hW0
  rw [hW0]
  have HB0 : Hid (Below w.heap.size w W0) := hb0
  have c0 := seen ((hb0.cell (lt_of_cell c0)).trans c0)
  have c1 := seen ((hb0.cell (lt_of_cell c1)).trans c1)
  have c2 := seen ((hb0.cell (lt_of_cell c2)).trans c2)
  have c3 := seen ((hb0.cell (lt_of_cell c3)).trans c3)
  have d0 := seen ((hb0.cell (lt_of_cell d0)).trans d0)
  have d1 := seen ((hb0.cell (lt_of_cell d1)).trans d1)
  have d2 := seen ((hb0.cell (lt_of_cell d2)).trans d2)
  have d3 := seen ((hb0.cell (lt_of_cell d3)).trans d3)
  have x2 := seen x2
  have x3 := seen x3
  have f2 := seen f2
  have f3 := seen f3
  clear hW0 hb0 x0 x1 t0 t1 t2 t3 h1w hk hsz hlen hz
  go_region_held3 (fun w' => Below W0.heap.size W0 w') (first | exact Below.drew (Below.refl _ _) | exact Below.on (by assumption) (by assumption) | exact Below.one (by assumption) _)
    (first
      | (go_at_call_of 96 (x.kind); refine (HX.out _ (Below.on HB0.out (by assumption))).mono ?_; rintro e w' ⟨rfl, hb⟩)
      | (go_at_call_of 96 (y.kind); refine (HY.out _ (Below.on HB0.out (by assumption))).mono ?_; rintro e w' ⟨rfl, hb⟩)
      | (go_at_call 63; refine (join_new [⟨(wiB (rkE x.kind) (formE kn).rank (txE x)).toArray⟩, ⟨#[32]⟩, (formE kn).sign, ⟨#[32]⟩, ⟨(wiB (rkE y.kind) ((formE kn).rank + 1) (txE y)).toArray⟩] _ (Nat.le_of_ble_eq_true rfl) HLEN.out).mono ?_; rintro e w' ⟨rfl, hb⟩))
  all_goals go_wp2_with fail
  all_goals go_ret
  all_goals exact ⟨ret_str HC.out, Below.on HB0.out (by assumption)⟩
end Go.Proofs.YtbpemackmadhgabDoor

/- expr at numbers, names and calls; expr at every expression that has a form. -/
namespace Go.Proofs.YtbpemackmadhgabDoor
open Go.RowKit Go.Sort

theorem commas_of {w : World} {v : Value} {xs : List ByteArray} {t : List UInt8} (h : Strs w v xs) (ht : comB (xs.map (·.data.toList)) = t) (hn : xs.length ≤ 1000000) (hlen : t.length ≤ 140737488355328) :
    Calls Tryd.prog 40 #[v] w fun e w' => e = .returned (sB t) ∧ Below w.heap.size w w' := by
  obtain ⟨a, cap, rfl, hcap, hc⟩ := h
  have := commas_any xs a cap w hc hn hcap (by rw [ht]; exact hlen)
  rwa [ht] at this
theorem len_szL : ∀ l : List Ex, l.length ≤ szL l
  | [] => by simp
  | x :: r => by rw [szL, List.length_cons]; have := x.sz_pos; have := len_szL r; omega
theorem comB_map (l : List Ex) : comB ((l.map fun x => (⟨(txE x).toArray⟩ : ByteArray)).map (·.data.toList)) = comB (l.map txE) := by
  rw [List.map_map]; rfl

set_option maxRecDepth 100000 in
set_option maxHeartbeats 4000000 in
theorem expr1 (n : Int) (s : ByteArray) (a : Option Addr) (c : Nat) (l : List Ex) (w : World) (hI : I64 n) (ht : Tabs w) (hnt : NumT w) :
    Calls Tryd.prog 81 #[(Ex.mk 1 n s a c l).val] w fun e w' => e = .returned (sB (Lib.itoa n)) ∧ Below w.heap.size w w' := by
  have HN : Hid (∀ w', Below w.heap.size w w' → Calls Tryd.prog 42 #[.int .i64 n] w' fun e w'' => e = .returned (sB (Lib.itoa n)) ∧ Below w'.heap.size w' w'') := fun w' hb => number_any n w' hI (hnt.stay hb)
  obtain ⟨t0, t1, t2, t3⟩ := ht.2 1 (by omega)
  have h1w : 1 < w.heap.size := lt_of_cell t0
  have hb0 := (exW_facts 1 n s (.slice a l.length c) (formE 1) w).1
  unfold exW at hb0
  clear ht hnt
  unfold Ex.val
  simp only [Ex.kind, Ex.n, Ex.name, Ex.a, Ex.cap, Ex.args]
  go_enter Tryd.func81, Tryd.ntmps81
  go_wp2_with fail
  refine (HN.out _ hb0).mono ?_
  rintro e w1 ⟨rfl, hb1⟩
  go_wp2_with fail
  go_ret
  exact ⟨rfl, Below.on hb0 hb1⟩

set_option maxRecDepth 100000 in
set_option maxHeartbeats 4000000 in
theorem expr2 (n : Int) (s : ByteArray) (a : Option Addr) (c : Nat) (l : List Ex) (w : World) (ht : Tabs w) :
    Calls Tryd.prog 81 #[(Ex.mk 2 n s a c l).val] w fun e w' => e = .returned (.string s) ∧ Below w.heap.size w w' := by
  obtain ⟨t0, t1, t2, t3⟩ := ht.2 2 (by omega)
  have h1w : 1 < w.heap.size := lt_of_cell t0
  have hb0 := (exW_facts 2 n s (.slice a l.length c) (formE 2) w).1
  unfold exW at hb0
  clear ht
  unfold Ex.val
  simp only [Ex.kind, Ex.n, Ex.name, Ex.a, Ex.cap, Ex.args]
  go_enter Tryd.func81, Tryd.ntmps81
  go_wp2_with fail
  go_ret
  exact ⟨rfl, hb0⟩

set_option maxRecDepth 100000 in
set_option maxHeartbeats 8000000 in
theorem expr4 (k : Nat) (h1 : ExprOk k) (n : Int) (s : ByteArray) (a : Option Addr) (c : Nat) (l : List Ex) (w : World) (hk : (Ex.mk 4 n s a c l).sz ≤ k + 1) (hin : (Ex.mk 4 n s a c l).In w) (ht : Tabs w) (hnt : NumT w) (hok : OkE (Ex.mk 4 n s a c l)) (hsz : (Ex.mk 4 n s a c l).sz ≤ 1000000) :
    Calls Tryd.prog 81 #[(Ex.mk 4 n s a c l).val] w fun e w' => e = .returned (sB (txE (Ex.mk 4 n s a c l))) ∧ Below w.heap.size w w' := by
  have hlen := txE_len (w := w) _ _ (Nat.le_refl _) hin hok
  have hz := (Ex.mk 4 n s a c l).sz_args
  simp only [Ex.args] at hz
  have hin' := Ex.in_iff.1 hin
  simp only [Ex.kind, Ex.n, Ex.name, Ex.a, Ex.cap, Ex.args] at hin'
  obtain ⟨_, _, _, _, _, _, hrow, hsub⟩ := hin'
  have hoks := hok.parts.2
  simp only [Ex.args] at hoks
  have hll := len_szL l
  have HC : Hid (cat [s, ⟨#[40]⟩, ⟨(comB (l.map txE)).toArray⟩, ⟨#[41]⟩] = txE (Ex.mk 4 n s a c l)) := tx4 n s a c l
  have HLEN : Hid ((cat [s, ⟨#[40]⟩, ⟨(comB (l.map txE)).toArray⟩, ⟨#[41]⟩]).length ≤ 140737488355328) := by show _ ≤ _; rw [HC.out]; omega
  have HLE2 : Hid ((comB (l.map txE)).length ≤ 140737488355328) := by show _ ≤ _; have := HLEN.out; simp [cat] at this; omega
  have HEA : Hid (∀ w', Below w.heap.size w w' → Calls Tryd.prog 95 #[.slice a l.length c, .func (.func 81) #[] #[]] w' fun e w'' => ∃ va vc, e = .returned (.slice va l.length vc) ∧ Hid (Strs w'' (.slice va l.length vc) (l.map fun x => ⟨(txE x).toArray⟩)) ∧ Below w'.heap.size w' w'') := fun w' hb =>
    (eachExpr_any l a c w' (by omega) (hrow.below hb) (fun x hx w'' hb' => h1 x w'' (by have := szL_mem hx; omega) (((hsub x hx).stay hb).stay hb') ((ht.stay hb).stay hb') ((hnt.stay hb).stay hb') (hoks x hx) (by have := szL_mem hx; omega))).mono fun e w'' ⟨v, he, hs, hb'⟩ => by
      obtain ⟨va, vc, hv, hcap, hcc⟩ := hs
      rw [List.length_map] at hv hcap
      subst hv
      exact ⟨va, vc, he, ⟨va, vc, by rw [List.length_map], by rw [List.length_map]; exact hcap, hcc⟩, hb'⟩
  have HLM : Hid ((l.map fun x => (⟨(txE x).toArray⟩ : ByteArray)).length ≤ 1000000) := by show _ ≤ _; rw [List.length_map]; omega
  obtain ⟨t0, t1, t2, t3⟩ := ht.2 4 (by omega)
  have h1w : 1 < w.heap.size := lt_of_cell t0
  clear h1 hin ht hnt hok hrow hsub hoks
  unfold Ex.val
  simp only [Ex.kind, Ex.n, Ex.name, Ex.a, Ex.cap, Ex.args]
  go_enter Tryd.func81, Tryd.ntmps81
  go_wp2_with fail
  obtain ⟨hb0, x0, x1, x2, x3, f2, f3⟩ := exW_facts 4 n s (.slice a l.length c) (formE 4) w
  obtain ⟨W0, hW0⟩ : ∃ W0, exW 4 n s (.slice a l.length c) (formE 4) w = W0 := ⟨_, rfl⟩
  rw [hW0] at hb0 x0 x1 x2 x3 f2 f3
  unfold exW at hW0
  rw [hW0]
  have HB0 : Hid (Below w.heap.size w W0) := hb0
  have x2 := seen x2
  have x3 := seen x3
  clear hW0 hb0 x0 x1 f2 f3 t0 t1 t2 t3 h1w hk hsz hlen hz hll
  go_region_held3 (fun w' => Below W0.heap.size W0 w') (first | exact Below.drew (Below.refl _ _) | exact Below.on (by assumption) (by assumption) | exact Below.one (by assumption) _)
    (first
      | (go_at_call 95; refine (HEA.out _ (Below.on HB0.out (by assumption))).mono ?_; rintro e w' ⟨va, vc, rfl, hs, hb⟩)
      | (go_at_call 40; refine (commas_of hs.out (comB_map l) HLM.out HLE2.out).mono ?_; rintro e w' ⟨rfl, hb⟩)
      | (go_at_call 63; refine (join_new [s, ⟨#[40]⟩, ⟨(comB (l.map txE)).toArray⟩, ⟨#[41]⟩] _ (Nat.le_of_ble_eq_true rfl) HLEN.out).mono ?_; rintro e w' ⟨rfl, hb⟩))
  all_goals go_wp2_with fail
  all_goals go_ret
  all_goals exact ⟨ret_str HC.out, Below.on HB0.out (by assumption)⟩

theorem expr_step (k : Nat) (h1 : ExprOk k) : ExprOk (k + 1) := by
  have h2 : WithinOk k := fun x least w hk hin ht hnt hok hsz => within_step k h1 x least w hk hin ht hnt hok hsz
  intro x w hk hin ht hnt hok hsz
  obtain ⟨kn, hkn, hk1, hk2, hlen, _, _⟩ := selfE_zero hok.parts.1
  obtain ⟨kd, n, s, a, c, l⟩ := x
  simp only [Ex.kind, Ex.args] at hkn hlen
  subst hkn
  have hI : I64 n := (Ex.in_iff.1 hin).2.1
  by_cases e1 : kn = 1
  · subst e1
    have : txE (Ex.mk ((1 : Nat) : Int) n s a c l) = Lib.itoa n := by rw [txE_eq]; rfl
    rw [this]
    exact expr1 n s a c l w hI ht hnt
  by_cases e2 : kn = 2
  · subst e2
    have : txE (Ex.mk ((2 : Nat) : Int) n s a c l) = s.data.toList := by rw [txE_eq]; rfl
    rw [this]
    exact expr2 n s a c l w ht
  by_cases e3 : kn = 3
  · subst e3
    match l, hlen (by decide) with
    | [y], _ => exact expr3 k h1 n s a c y w hk hin ht hnt hok hsz
    | [], h => simp [formE] at h
    | _ :: _ :: _, h => simp [formE] at h; omega
  by_cases e4 : kn = 4
  · subst e4; exact expr4 k h1 n s a c l w hk hin ht hnt hok hsz
  by_cases e5 : kn = 5
  · subst e5
    match l, hlen (by decide) with
    | [y], _ => exact expr5 k h2 n s a c y w hk hin ht hnt hok hsz
    | [], h => simp [formE] at h
    | _ :: _ :: _, h => simp [formE] at h; omega
  by_cases e6 : kn = 6
  · subst e6
    match l, hlen (by decide) with
    | [y], _ => exact expr6 k h2 n s a c y w hk hin ht hnt hok hsz
    | [], h => simp [formE] at h
    | _ :: _ :: _, h => simp [formE] at h; omega
  by_cases e20 : kn = 20
  · subst e20
    match l, hlen (by decide) with
    | [x, y, z], _ => exact expr20 k h1 h2 n s a c x y z w hk hin ht hnt hok hsz
    | [], h => simp [formE] at h
    | [_], h => simp [formE] at h
    | [_, _], h => simp [formE] at h
    | _ :: _ :: _ :: _ :: _, h => simp [formE] at h; omega
  · have ha := args_two kn (by omega) hk2 e20
    rw [ha] at hlen
    match l, hlen (by decide) with
    | [x, y], _ => exact exprTwo k h2 kn (by omega) (by omega) n s a c x y w hk hin ht hnt hok hsz
    | [], h => simp at h
    | [_], h => simp at h
    | _ :: _ :: _ :: _, h => simp at h; omega
theorem expr_all (k : Nat) : ExprOk k := by
  induction k with
  | zero => intro x w h; have := x.sz_pos; omega
  | succ k ih => exact expr_step k ih
theorem expr_any (x : Ex) (w : World) (hin : x.In w) (ht : Tabs w) (hnt : NumT w) (hok : OkE x) (hsz : x.sz ≤ 1000000) : Calls Tryd.prog 81 #[x.val] w fun e w' => e = .returned (sB (txE x)) ∧ Below w.heap.size w w' := expr_all _ x w (Nat.le_refl _) hin ht hnt hok hsz
end Go.Proofs.YtbpemackmadhgabDoor

/- Statements' and programs' texts. -/
namespace Go.Proofs.YtbpemackmadhgabDoor
open Go.RowKit

mutual
def txS : St → Nat → List UInt8
  | .mk k s n a b _ _ l _ _ e _ _ c, d =>
    if k = 1 then lineB d ([108, 101, 116, 32] ++ s.data.toList ++ [32, 61, 32] ++ txE a ++ [59])
    else if k = 2 then lineB d ([108, 101, 116, 32] ++ s.data.toList ++ [91] ++ Lib.itoa n ++ [93, 59])
    else if k = 3 then lineB d (s.data.toList ++ [32, 61, 32] ++ txE a ++ [59])
    else if k = 4 then lineB d (s.data.toList ++ [91] ++ txE a ++ [93, 32, 61, 32] ++ txE b ++ [59])
    else if k = 5 then lineB d ([105, 102, 32] ++ txE a ++ [32, 123]) ++ txSs l (d + 1) ++ (if e.length = 0 then [] else lineB d [125, 32, 101, 108, 115, 101, 32, 123] ++ txSs e (d + 1)) ++ lineB d [125]
    else if k = 6 then lineB d ([115, 119, 105, 116, 99, 104, 32] ++ txE a ++ [32, 123]) ++ txCs c (d + 1) ++ (if e.length = 0 then [] else lineB (d + 1) [101, 108, 115, 101, 32, 123] ++ txSs e (d + 2) ++ lineB (d + 1) [125]) ++ lineB d [125]
    else if k = 7 then lineB d ([102, 111, 114, 32] ++ s.data.toList ++ [32, 105, 110, 32] ++ txE a ++ [46, 46] ++ txE b ++ [32, 123]) ++ txSs l (d + 1) ++ lineB d [125]
    else if k = 8 then lineB d [98, 114, 101, 97, 107, 59]
    else if k = 9 then lineB d ([114, 101, 116, 117, 114, 110, 32] ++ txE a ++ [59])
    else lineB d (txE a ++ [59])
def txSs : List St → Nat → List UInt8
  | [], _ => []
  | s :: r, d => txS s d ++ txSs r d
def txC : Ca → Nat → List UInt8
  | .mk n _ _ l, d => lineB d ([99, 97, 115, 101, 32] ++ Lib.itoa n ++ [32, 123]) ++ txSs l (d + 1) ++ lineB d [125]
def txCs : List Ca → Nat → List UInt8
  | [], _ => []
  | c :: r, d => txC c d ++ txCs r d
end
theorem txSs_take (l : List St) (d j : Nat) (h : j < l.length) : txSs (l.take (j + 1)) d = txSs (l.take j) d ++ txS l[j] d := by
  induction l generalizing j with
  | nil => simp at h
  | cons x r ih =>
    cases j with
    | zero => simp [txSs]
    | succ j =>
      have := ih j (by simpa using h)
      rw [List.take_succ_cons, List.take_succ_cons, txSs, txSs, this]; simp
theorem txSs_le (l : List St) (d j : Nat) : (txSs (l.take j) d).length ≤ (txSs l d).length := by
  induction l generalizing j with
  | nil => simp
  | cons x r ih =>
    cases j with
    | zero => simp [txSs]
    | succ j => rw [List.take_succ_cons, txSs, txSs]; simp only [List.length_append]; have := ih j; omega
/-- A function's text. -/
def txF (f : Fu) : List UInt8 := lineB 0 ([102, 110, 32] ++ f.name.data.toList ++ [40] ++ comB (f.params.map paB) ++ [41, 32, 123]) ++ txSs f.body 1 ++ lineB 0 [125]
def txFs : List Fu → List UInt8
  | [] => []
  | f :: r => txF f ++ txFs r
theorem txFs_take (l : List Fu) (j : Nat) (h : j < l.length) : txFs (l.take (j + 1)) = txFs (l.take j) ++ txF l[j] := by
  induction l generalizing j with
  | nil => simp at h
  | cons x r ih =>
    cases j with
    | zero => simp [txFs]
    | succ j =>
      have := ih j (by simpa using h)
      rw [List.take_succ_cons, List.take_succ_cons, txFs, txFs, this]; simp
theorem txFs_le (l : List Fu) (j : Nat) : (txFs (l.take j)).length ≤ (txFs l).length := by
  induction l generalizing j with
  | nil => simp
  | cons x r ih =>
    cases j with
    | zero => simp [txFs]
    | succ j => rw [List.take_succ_cons, txFs, txFs]; simp only [List.length_append]; have := ih j; omega
def txW (l : List Int) : List UInt8 := if l.length = 0 then [] else lineB 0 ([119, 105, 100, 101, 110, 32] ++ comB (l.map Lib.itoa) ++ [59])
/-- A program's text. -/
def txP (p : Pr) : List UInt8 := txW p.widen ++ txFs p.funcs
end Go.Proofs.YtbpemackmadhgabDoor

/- A page's body of statements; a return. -/
namespace Go.Proofs.YtbpemackmadhgabDoor
open Go.RowKit Go.Sort

/-- line at pieces that have just been laid. -/
theorem line_new (B b : Nat) (l : List UInt8) (d : Nat) (xs : List ByteArray) (W : World) (h : PgT B b l d W) (hB : B ≤ W.heap.size) (hn : xs.length ≤ 1000) (hd : d ≤ 100) (hlen : (l ++ lineB d (cat xs)).length ≤ 140737488355328) :
    Calls Tryd.prog 39 #[.pointer (some ⟨b, 0, none⟩), .slice (some ⟨W.heap.size, 0, none⟩) xs.length xs.length] (W.alloc (.cells (xs.map Value.string).toArray 9)) fun e w' => e = .returned (.tuple #[]) ∧ PgT B b (l ++ lineB d (cat xs)) d w' ∧ Below B (W.alloc (.cells (xs.map Value.string).toArray 9)) w' ∧ Oth b (W.alloc (.cells (xs.map Value.string).toArray 9)) w' := by
  have hlt : b < W.heap.size := by obtain ⟨p, h1⟩ := h.some; exact h1.lt
  have hb := (Below.refl _ W).alloc (Nat.le_refl _) (.cells (xs.map Value.string).toArray 9)
  refine line_any B b l d xs W.heap.size xs.length _ (h.stay hb) (by simp; omega) ⟨_, _, heap_alloc_new W _, fun j x hj => by simp [hj]⟩ (by omega) hn hd hlen

/-- What page.stmt does at a statement, in every world behind w0. -/
abbrev StmtD (w0 : World) (D : Nat) (s : St) : Prop := ∀ (b : Nat) (l : List UInt8) (d : Nat) (w : World), Below w0.heap.size w0 w → PgT w0.heap.size b l d w → d ≤ D → (l ++ txS s d).length ≤ 140737488355328 →
  Calls Tryd.prog 64 #[.pointer (some ⟨b, 0, none⟩), s.val] w fun e w' => e = .returned (.tuple #[]) ∧ PgT w0.heap.size b (l ++ txS s d) d w' ∧ Below w0.heap.size w w' ∧ Oth b w w'

/-- .. in at most 60 bodies. -/
abbrev StmtPr (w0 : World) (s : St) : Prop := StmtD w0 90 s

theorem stmtD_le {w0 : World} {D D' : Nat} {s : St} (h : StmtD w0 D s) (hD : D' ≤ D) : StmtD w0 D' s := fun b l d w h1 h2 h3 h4 => h b l d w h1 h2 (Nat.le_trans h3 hD) h4
theorem box_oth {W W' : World} {b B1 : Nat} {cs : Array Value} (h : W.heap[B1]? = some (.cells cs 53 (0, 0))) (hb : B1 ≠ b) (ho : Oth b W W') : W'.heap[B1]? = some (.cells cs 53 (0, 0)) :=
  ho B1 _ h (by simpa using hb) (fun c fz e => by cases e)

set_option maxRecDepth 100000 in
set_option maxHeartbeats 8000000 in
theorem bodyD (w0 : World) (D : Nat) (b : Nat) (l : List UInt8) (d : Nat) (list : List St) (a : Option Addr) (c : Nat) (w : World) (hB : Below w0.heap.size w0 w) (hp : PgT w0.heap.size b l d w) (hd : d + 1 ≤ D) (hd6 : d ≤ 95) (hin : Have w0 a c list) (hs : ∀ s ∈ list, StmtD w0 D s) (hlen : (l ++ txSs list (d + 1)).length ≤ 140737488355328) :
    Calls Tryd.prog 45 #[.pointer (some ⟨b, 0, none⟩), .slice a list.length c] w fun e w' => e = .returned (.tuple #[]) ∧ PgT w0.heap.size b (l ++ txSs list (d + 1)) d w' ∧ Below w0.heap.size w w' ∧ Oth b w w' := by
  obtain ⟨⟨hl, hc, _, hrow⟩, hsub⟩ := hin
  have HR : Hid (RowIn w0 a 14 (List.map St.cells list)) := hrow
  have HS : Hid (∀ s ∈ list, StmtD w0 D s) := hs
  have HB : Hid (Below w0.heap.size w0 w) := hB
  have HLEN : Hid (l.length + (txSs list (d + 1)).length ≤ 140737488355328) := by show _ ≤ _; simpa using hlen
  obtain ⟨p, h1⟩ := hp.some
  have hBb := h1.1
  have hblt := h1.lt
  have c2 : w.cell? ⟨b, 2, none⟩ = some (.int .i64 d) := by
    obtain ⟨ao, cp, hbk, _⟩ := h1.slice
    rw [Lib.cell_of_heap hbk]; rfl
  have q2 := h1.frozen 2
  have HP1 : Hid (PgT w0.heap.size b l (d + 1) (w.setCell ⟨b, 2, none⟩ (.int .i64 (d + 1)))) := by
    show Pg _ _ _ _ _
    rcases hp with h | h
    · exact .inl (h.deep _)
    · exact .inr (h.deep _)
  have HB1 : Hid (Below w0.heap.size w (w.setCell ⟨b, 2, none⟩ (.int .i64 (d + 1)))) := (Below.refl _ w).setCell (p := ⟨b, 2, none⟩) hBb _
  have HO1 : Hid (Oth b w (w.setCell ⟨b, 2, none⟩ (.int .i64 (d + 1)))) := (Lib.OthersKept.refl _ (some b) w).setCell ⟨b, 2, none⟩ rfl _
  clear hrow hsub hs hB hlen hp h1
  go_enter Tryd.func45, Tryd.ntmps45
  go_wp2_with fail
  go_loopw [15] (fun t15 wr => ∃ (j : Nat), j ≤ list.length ∧ t15 = .int .i64 j ∧ PgT w0.heap.size b (l ++ txSs (list.take j) (d + 1)) (d + 1) wr ∧ Below w0.heap.size w wr ∧ Oth b w wr) (fun t15 _ => list.length - (intOf t15).toNat)
  case atStart => exact ⟨0, Nat.zero_le _, rfl, by simpa [txSs] using HP1.out, HB1.out, HO1.out⟩
  case round =>
    obtain ⟨j, hj, rfl, hpg, hb, ho⟩ := hrel
    have HPG : Hid (PgT w0.heap.size b (l ++ txSs (list.take j) (d + 1)) (d + 1) wr) := hpg
    clear hpg c2 q2 HP1 HB1 HO1
    have hws := hb.size
    have hws0 := HB.out.size
    have hb0 : Below w0.heap.size w0 wr := HB.out.trans hb
    by_cases hlt : j < list.length
    · obtain ⟨rb, o, rfl, hcell⟩ := rowS_at (HR.out.below hb0) hlt
      have c0 := hcell 0 _ rfl
      have c1 := hcell 1 _ rfl
      have c2 := hcell 2 _ rfl
      have c3 := hcell 3 _ rfl
      have c4 := hcell 4 _ rfl
      have c5 := hcell 5 _ rfl
      have c6 := hcell 6 _ rfl
      have c7 := hcell 7 _ rfl
      have c8 := hcell 8 _ rfl
      have c9 := hcell 9 _ rfl
      have c10 := hcell 10 _ rfl
      have c11 := hcell 11 _ rfl
      have c12 := hcell 12 _ rfl
      have c13 := hcell 13 _ rfl
      simp only [← Nat.add_assoc, Nat.add_zero] at c0 c1 c2 c3 c4 c5 c6 c7 c8 c9 c10 c11 c12 c13
      clear hcell
      have hli : (j : Int) < (list.length : Int) := by omega
      have HT : Hid (txSs (list.take (j + 1)) (d + 1) = txSs (list.take j) (d + 1) ++ txS list[j] (d + 1)) := txSs_take list (d + 1) j hlt
      have HLE : Hid ((txSs (list.take (j + 1)) (d + 1)).length ≤ (txSs list (d + 1)).length) := txSs_le list (d + 1) (j + 1)
      have HST : Hid (StmtD w0 D list[j]) := HS.out list[j] (List.getElem_mem hlt)
      generalize list[j] = s at *
      have hb1 := (Below.refl _ wr).alloc (Nat.le_refl _) (.cells #[.int .i64 s.kind, .string s.name, .int .i64 s.n, .int .i64 s.a.kind, .int .i64 s.a.n, .string s.a.name, .slice s.a.a s.a.args.length s.a.cap, .int .i64 s.b.kind, .int .i64 s.b.n, .string s.b.name, .slice s.b.a s.b.args.length s.b.cap, .slice s.ba s.body.length s.bc, .slice s.ea s.els.length s.ec, .slice s.ca s.cases.length s.cc] 53)
      have HPG1 := HPG.out.stay hb1
      have HO1 : Oth b wr _ := oth_below hb1
      have hb2 : Below w0.heap.size w _ := hb.alloc (by omega) (.cells #[.int .i64 s.kind, .string s.name, .int .i64 s.n, .int .i64 s.a.kind, .int .i64 s.a.n, .string s.a.name, .slice s.a.a s.a.args.length s.a.cap, .int .i64 s.b.kind, .int .i64 s.b.n, .string s.b.name, .slice s.b.a s.b.args.length s.b.cap, .slice s.ba s.body.length s.bc, .slice s.ea s.els.length s.ec, .slice s.ca s.cases.length s.cc] 53)
      go_wp2_with fail
      refine (HST.out b _ (d + 1) _ (HB.out.trans hb2) HPG1 (by omega) (by have := HLE.out; have := HLEN.out; rw [HT.out] at *; simp only [List.length_append] at *; omega)).mono ?_
      rintro e w1 ⟨rfl, hp1, hbs, hos⟩
      have HPG2 : Hid (PgT w0.heap.size b (l ++ txSs (list.take (j + 1)) (d + 1)) (d + 1) w1) := by
        show PgT _ _ _ _ _; rw [HT.out, ← List.append_assoc]; exact hp1
      clear hp1 HPG1
      go_wp2_with fail
      go_roundw
      case rel => exact ⟨j + 1, by omega, by go_num, HPG2.out, hb2.trans hbs, (ho.trans HO1).trans hos⟩
      case measure => simp [intOf]; omega
    · obtain rfl : j = list.length := by omega
      have HPG3 : Hid (PgT w0.heap.size b (l ++ txSs list (d + 1)) (d + 1) wr) := by
        show PgT _ _ _ _ _; have := HPG.out; rwa [List.take_length] at this
      obtain ⟨p, h1⟩ := HPG3.out.some
      have c2 : wr.cell? ⟨b, 2, none⟩ = some (.int .i64 ((d + 1 : Nat) : Int)) := by
        obtain ⟨ao, cp, hbk, _⟩ := h1.slice
        rw [Lib.cell_of_heap hbk]; rfl
      have q2 := h1.frozen 2
      have HP4 : Hid (PgT w0.heap.size b (l ++ txSs list (d + 1)) d (wr.setCell ⟨b, 2, none⟩ (.int .i64 d))) := by
        show Pg _ _ _ _ _
        rcases HPG3.out with h | h
        · exact .inl (h.deep _)
        · exact .inr (h.deep _)
      clear h1
      go_wp2_with fail
      go_end0
      exact ⟨rfl, HP4.out, hb.setCell (p := ⟨b, 2, none⟩) hBb _, ho.setCell ⟨b, 2, none⟩ rfl _⟩

theorem body_any (w0 : World) (b : Nat) (l : List UInt8) (d : Nat) (list : List St) (a : Option Addr) (c : Nat) (w : World) (hB : Below w0.heap.size w0 w) (hp : PgT w0.heap.size b l d w) (hd : d ≤ 50) (hin : Have w0 a c list) (hs : ∀ s ∈ list, StmtPr w0 s) (hlen : (l ++ txSs list (d + 1)).length ≤ 140737488355328) :
    Calls Tryd.prog 45 #[.pointer (some ⟨b, 0, none⟩), .slice a list.length c] w fun e w' => e = .returned (.tuple #[]) ∧ PgT w0.heap.size b (l ++ txSs list (d + 1)) d w' ∧ Below w0.heap.size w w' ∧ Oth b w w' := bodyD w0 90 b l d list a c w hB hp (by omega) (by omega) hin hs hlen

set_option maxRecDepth 100000 in
set_option maxHeartbeats 8000000 in
theorem stmt9 (w0 : World) (s : St) (hk : s.kind = 9) (hin : s.In w0) (ht : Tabs w0) (hnt : NumT w0) (hok : OkE s.a) (hsz : s.a.sz ≤ 1000000) : StmtPr w0 s := by
  intro b l d w hB hp hd hlen
  have HT : Hid (lineB d (cat [⟨#[114, 101, 116, 117, 114, 110, 32]⟩, ⟨(txE s.a).toArray⟩, ⟨#[59]⟩]) = txS s d) := by
    show _ = _; cases s; simp only [St.kind] at hk; subst hk; simp [txS, cat, St.a]
  rw [← HT.out] at hlen ⊢
  have HLEN : Hid ((l ++ lineB d (cat [⟨#[114, 101, 116, 117, 114, 110, 32]⟩, ⟨(txE s.a).toArray⟩, ⟨#[59]⟩])).length ≤ 140737488355328) := hlen
  have HX : Hid (∀ w', Below w0.heap.size w0 w' → Calls Tryd.prog 81 #[.agg #[.int .i64 s.a.kind, .int .i64 s.a.n, .string s.a.name, .slice s.a.a s.a.args.length s.a.cap]] w' fun e w'' => e = .returned (sB (txE s.a)) ∧ Below w'.heap.size w' w'') := fun w' hb => expr_any s.a w' ((St.in_iff.1 hin).2.2.2.1.stay hb) (ht.stay hb) (hnt.stay hb) hok hsz
  have HP : Hid (PgT w0.heap.size b l d w) := hp
  have hsw := hB.size
  clear hin ht hnt hok hp hlen HT
  unfold St.val
  rw [hk]
  go_enter Tryd.func64, Tryd.ntmps64
  go_wp2_with fail
  have hb0 := (Below.refl _ w).alloc (Nat.le_refl _) (.cells #[.int .i64 9, .string s.name, .int .i64 s.n, .int .i64 s.a.kind, .int .i64 s.a.n, .string s.a.name, .slice s.a.a s.a.args.length s.a.cap, .int .i64 s.b.kind, .int .i64 s.b.n, .string s.b.name, .slice s.b.a s.b.args.length s.b.cap, .slice s.ba s.body.length s.bc, .slice s.ea s.els.length s.ec, .slice s.ca s.cases.length s.cc] 53)
  have hB0 : Below w0.heap.size w0 _ := hB.alloc hsw (.cells #[.int .i64 9, .string s.name, .int .i64 s.n, .int .i64 s.a.kind, .int .i64 s.a.n, .string s.a.name, .slice s.a.a s.a.args.length s.a.cap, .int .i64 s.b.kind, .int .i64 s.b.n, .string s.b.name, .slice s.b.a s.b.args.length s.b.cap, .slice s.ba s.body.length s.bc, .slice s.ea s.els.length s.ec, .slice s.ca s.cases.length s.cc] 53)
  refine (HX.out _ hB0).mono ?_
  rintro e w1 ⟨rfl, hb1⟩
  have hb2 := Below.on hb0 hb1
  go_wp2_with fail
  refine (line_new w0.heap.size b l d [⟨#[114, 101, 116, 117, 114, 110, 32]⟩, ⟨(txE s.a).toArray⟩, ⟨#[59]⟩] w1 (HP.out.stay hb2) (by have := hb2.size; omega) (Nat.le_of_ble_eq_true rfl) (by omega) HLEN.out).mono ?_
  rintro e w2 ⟨rfl, hp2, hb3, ho3⟩
  have HP2 : Hid (PgT w0.heap.size b (l ++ lineB d (cat [⟨#[114, 101, 116, 117, 114, 110, 32]⟩, ⟨(txE s.a).toArray⟩, ⟨#[59]⟩])) d w2) := hp2
  clear hp2
  go_wp2_with fail
  go_end0
  exact ⟨rfl, HP2.out, ((hb2.mono hsw).alloc (by have := hb2.size; omega) _).trans hb3, ((oth_below hb2).alloc _).trans ho3⟩
end Go.Proofs.YtbpemackmadhgabDoor

/- A program's text gathered; tree.Print where Check finds nothing wrong. -/
namespace Go.Proofs.YtbpemackmadhgabDoor
open Go.RowKit Go.Sort

theorem oth_cell {W W' : World} {b k j : Nat} {cs : Array Value} {t : TypeId} {fz : Nat × Nat} {v : Value} (h : W.heap[k]? = some (.cells cs t fz)) (ht : t ≠ 5) (hk : k ≠ b) (ho : Oth b W W') (hv : cs[j]? = some v) : W'.cell? ⟨k, j, none⟩ = some v := by
  have := ho k _ h (by simpa using hk) (fun c fz' e => ht (by cases e; rfl))
  rw [Lib.cell_of_heap this]; exact hv
/-- line, in a world behind one in which the page lies. -/
theorem line_in {B b : Nat} {l : List UInt8} {d : Nat} {xs : List ByteArray} {W0 W : World} (h : PgT B b l d W0) (hb : Below W0.heap.size W0 W) (hB : B ≤ W0.heap.size) (hn : xs.length ≤ 1000) (hd : d ≤ 100) (hlen : (l ++ lineB d (cat xs)).length ≤ 140737488355328) :
    Calls Tryd.prog 39 #[.pointer (some ⟨b, 0, none⟩), .slice (some ⟨W.heap.size, 0, none⟩) xs.length xs.length] (W.alloc (.cells (xs.map Value.string).toArray 9)) fun e w' => e = .returned (.tuple #[]) ∧ Hid (PgT B b (l ++ lineB d (cat xs)) d w') ∧ Hid (Below B W0 w') ∧ Oth b W0 w' :=
  (line_new B b l d xs W (h.stay hb) (by have := hb.size; omega) hn hd hlen).mono fun _ _ ⟨he, hp, hb', ho⟩ => ⟨he, hp, ((hb.mono hB).alloc (by have := hb.size; omega) _).trans hb', ((oth_below hb).alloc _).trans ho⟩
theorem comB_one (l : List Int) : comB ((l.map fun x => (⟨(Lib.itoa x).toArray⟩ : ByteArray)).map (·.data.toList)) = comB (l.map Lib.itoa) := by rw [List.map_map]; rfl
theorem comB_pa (l : List Pa) : comB ((l.map fun x => (⟨(paB x).toArray⟩ : ByteArray)).map (·.data.toList)) = comB (l.map paB) := by rw [List.map_map]; rfl
theorem strs_len {α : Type} {w : World} {v : Value} {l : List α} {f : α → ByteArray} (h : Strs w v (l.map f)) : ∃ va vc, v = .slice va l.length vc ∧ Hid (Strs w (.slice va l.length vc) (l.map f)) := by
  obtain ⟨va, vc, hv, hcap, hcc⟩ := h
  have e : (l.map f).length = l.length := List.length_map ..
  rw [e] at hv
  exact ⟨va, vc, hv, ⟨va, vc, by rw [e], hcap, hcc⟩⟩

/-- What is asked of a function that is to be written. -/
def FnPr (w0 : World) (f : Fu) : Prop := (∀ s ∈ f.body, StmtD w0 2 s) ∧ (∀ q ∈ f.params, (paB q).length ≤ 100000) ∧ f.params.length ≤ 8


set_option maxRecDepth 100000 in
set_option maxHeartbeats 16000000 in
theorem program_any (w0 : World) (b : Nat) (w : World) (p : Pr) (hB : Below w0.heap.size w0 w) (hp : PgT w0.heap.size b [] 0 w) (hin : p.In w0) (hnt : NumT w0) (hw16 : p.widen.length ≤ 16) (hf : ∀ f ∈ p.funcs, FnPr w0 f) (hlen : (txP p).length ≤ 140737488355328) :
    Calls Tryd.prog 24 #[.pointer (some ⟨b, 0, none⟩), p.val] w fun e w' => e = .returned (.tuple #[]) ∧ PgT w0.heap.size b (txP p) 0 w' ∧ Below w0.heap.size w w' ∧ Oth b w w' := by
  have HB : Hid (Below w0.heap.size w0 w) := hB
  have HNT : Hid (NumT w0) := hnt
  have HF : Hid (∀ f ∈ p.funcs, FnPr w0 f) := hf
  have HP : Hid (PgT w0.heap.size b [] 0 w) := hp
  have hsw := hB.size
  have hth := hin.thr
  obtain ⟨_, _, _, _, hw64, hfl, hfc, _, hrow, hsub⟩ := hin
  have HR : Hid (RowIn w0 p.fa 3 (List.map Fu.cells p.funcs)) := hrow
  have HFS : Hid (∀ f ∈ p.funcs, f.In w0) := hsub
  have HW : Hid (Thr w0 p.wa p.wc p.widen) := hth
  have HW64 : Hid (∀ z ∈ p.widen, I64 z) := hw64
  have hblt : b < w.heap.size := by obtain ⟨q, h1⟩ := hp.some; exact h1.lt
  have HTP : Hid (txP p = txW p.widen ++ txFs p.funcs) := (rfl : txP p = _)
  have HLEN : Hid ((txW p.widen).length + (txFs p.funcs).length ≤ 140737488355328) := by show _ ≤ _; simpa [txP] using hlen
  clear hB hnt hf hp hrow hsub hth hw64 hlen
  obtain ⟨l1, hl1⟩ : ∃ l1, txW p.widen = l1 := ⟨_, rfl⟩
  rw [hl1] at HTP HLEN
  have HL1 : Hid (txW p.widen = l1) := hl1
  clear hl1
  unfold Pr.val
  by_cases hw : 0 < p.widen.length
  · have HX : Hid (lineB 0 (cat [⟨#[119, 105, 100, 101, 110, 32]⟩, ⟨(comB (p.widen.map Lib.itoa)).toArray⟩, ⟨#[59]⟩]) = l1) := by
      show _ = _; rw [← HL1.out, txW, if_neg (by omega)]; simp [cat]
    have HLX : Hid (([] ++ lineB 0 (cat [⟨#[119, 105, 100, 101, 110, 32]⟩, ⟨(comB (p.widen.map Lib.itoa)).toArray⟩, ⟨#[59]⟩])).length ≤ 140737488355328) := by
      show _ ≤ _; rw [HX.out]; have := HLEN.out; simp; omega
    have HLC : Hid ((comB (p.widen.map Lib.itoa)).length ≤ 140737488355328) := by show _ ≤ _; have := HLX.out; simp [lineB, cat] at this; omega
    have HLM : Hid ((p.widen.map fun x => (⟨(Lib.itoa x).toArray⟩ : ByteArray)).length ≤ 1000000) := by show _ ≤ _; rw [List.length_map]; omega
    have hwi : (0 : Int) < (p.widen.length : Int) := by omega
    go_enter Tryd.func24, Tryd.ntmps24
    go_wp2_with fail
    have hb0 := (Below.refl _ w).alloc (Nat.le_refl _) (.cells #[.slice p.wa p.widen.length p.wc, .slice p.fa p.funcs.length p.fc] 25)
    have hbk : (w.alloc (.cells #[.slice p.wa p.widen.length p.wc, .slice p.fa p.funcs.length p.fc] 25)).heap[w.heap.size]? = some (.cells #[.slice p.wa p.widen.length p.wc, .slice p.fa p.funcs.length p.fc] 25 (0, 0)) := heap_alloc_new w _
    have hbw : Below w0.heap.size w0 _ := HB.out.trans (hb0.mono hsw)
    refine (eachint64_any p.widen p.wa p.wc _ (by omega) (HW.out.2.2.below hbw) (fun x hx w'' hb' => number_any x w'' (HW64.out x hx) ((HNT.out.stay hbw).stay hb'))).mono ?_
    rintro e w1 ⟨v, rfl, hs, hb1⟩
    obtain ⟨va, vc, rfl, hs'⟩ := strs_len hs
    have HBK : Hid (w1.heap[w.heap.size]? = some (.cells #[.slice p.wa p.widen.length p.wc, .slice p.fa p.funcs.length p.fc] 25 (0, 0))) := (hb1.block w.heap.size (by simp)).trans hbk
    have hb2 := Below.on hb0 hb1
    clear hs hbk hb1
    go_wp2_with fail
    refine (commas_of hs'.out (comB_one p.widen) HLM.out HLC.out).mono ?_
    rintro e w2 ⟨rfl, hb3⟩
    have HBK2 : Hid (w2.heap[w.heap.size]? = some (.cells #[.slice p.wa p.widen.length p.wc, .slice p.fa p.funcs.length p.fc] 25 (0, 0))) := (hb3.block w.heap.size (Array.getElem?_eq_some_iff.1 HBK.out).1).trans HBK.out
    have hb4 := Below.on hb2 hb3
    clear hs' hb3
    go_wp2_with fail
    refine (line_in (W0 := w2) (xs := [⟨#[119, 105, 100, 101, 110, 32]⟩, ⟨(comB (p.widen.map Lib.itoa)).toArray⟩, ⟨#[59]⟩]) (HP.out.stay hb4) (Below.refl _ _) (by have := hb4.size; omega) (Nat.le_of_ble_eq_true rfl) (by decide) HLX.out).mono ?_
    rintro e w3 ⟨rfl, hp3, hb5, ho3⟩
    have HPG : Hid (PgT w0.heap.size b l1 0 w3) := by show PgT _ _ _ _ _; have := hp3.out; rw [HX.out] at this; simpa using this
    have hb1 : Below w0.heap.size w w3 := (hb4.mono hsw).trans hb5.out
    have hoA : Oth b w w3 := (oth_below hb4).trans ho3
    have c1 : w3.cell? ⟨w.heap.size, 1, none⟩ = some (.slice p.fa p.funcs.length p.fc) := oth_cell HBK2.out (by decide) (by omega) ho3 rfl
    clear hp3 hb5 ho3 hb0 hb2 hb4 hbw
    go_wp2_with fail
    go_loopw [20] (fun t20 wr => ∃ (j : Nat), j ≤ p.funcs.length ∧ t20 = .int .i64 j ∧ Hid (PgT w0.heap.size b (l1 ++ txFs (p.funcs.take j)) 0 wr) ∧ Below w0.heap.size w wr ∧ Oth b w wr) (fun t20 _ => p.funcs.length - (intOf t20).toNat)
    case atStart => exact ⟨0, Nat.zero_le _, rfl, by show PgT _ _ _ _ _; simpa [txFs] using HPG.out, hb1, hoA⟩
    case round =>
      obtain ⟨j, hj, rfl, HPJ, hbj, hoj⟩ := hrel
      clear HPG hb1 c1 hoA
      have hwj := hbj.size
      have hbj0 : Below w0.heap.size w0 wr := HB.out.trans hbj
      by_cases hlt : j < p.funcs.length
      · obtain ⟨rb, o, hfa, k0, k1, k2⟩ := rowF_at (HR.out.below hbj0) hlt
        rw [hfa]
        have hli : (j : Int) < (p.funcs.length : Int) := by omega
        have HT : Hid (txFs (p.funcs.take (j + 1)) = txFs (p.funcs.take j) ++ txF p.funcs[j]) := txFs_take p.funcs j hlt
        have HLE : Hid ((txFs (p.funcs.take (j + 1))).length ≤ (txFs p.funcs).length) := txFs_le p.funcs (j + 1)
        have HFN : Hid (FnPr w0 p.funcs[j]) := HF.out p.funcs[j] (List.getElem_mem hlt)
        have HFI : Hid (p.funcs[j].In w0) := HFS.out p.funcs[j] (List.getElem_mem hlt)
        generalize p.funcs[j] = f at *
        have hblt : b < wr.heap.size := by obtain ⟨q, h1⟩ := HPJ.out.some; exact h1.lt
        have HLF : Hid ((l1 ++ txFs (p.funcs.take j)).length + (txF f).length ≤ 140737488355328) := by
          show _ ≤ _; have := HLE.out; have := HLEN.out; rw [HT.out] at *; simp only [List.length_append] at *; omega
        have HTF : Hid (txF f = lineB 0 (cat [⟨#[102, 110, 32]⟩, f.name, ⟨#[40]⟩, ⟨(comB (f.params.map paB)).toArray⟩, ⟨#[41, 32, 123]⟩]) ++ txSs f.body 1 ++ lineB 0 (cat [⟨#[125]⟩])) := by show _ = _; simp [txF, cat]
        obtain ⟨lj, HLJ⟩ : ∃ lj, l1 ++ txFs (p.funcs.take j) = lj := ⟨_, rfl⟩
        rw [HLJ] at HPJ HLF
        have HLJH : Hid (l1 ++ txFs (p.funcs.take j) = lj) := HLJ
        clear HLJ
        go_wp2_with fail
        obtain ⟨W0, hW0⟩ : ∃ W0, wr.alloc (.cells #[.string f.name, .slice f.pa f.params.length f.pc, .slice f.ba f.body.length f.bc] 36) = W0 := ⟨_, rfl⟩
        have hbx : Below wr.heap.size wr W0 := by rw [← hW0]; exact (Below.refl _ wr).alloc (Nat.le_refl _) _
        have hbk : W0.heap[wr.heap.size]? = some (.cells #[.string f.name, .slice f.pa f.params.length f.pc, .slice f.ba f.body.length f.bc] 36 (0, 0)) := by rw [← hW0]; exact heap_alloc_new wr _
        rw [hW0]
        have HBX : Hid (Below w0.heap.size w W0) := hbj.trans (hbx.mono (by omega))
        have HOX : Hid (Oth b w W0) := hoj.trans (oth_below hbx)
        have HPX : Hid (PgT w0.heap.size b lj 0 W0) := HPJ.out.stay hbx
        have hsx : w0.heap.size ≤ W0.heap.size := by have := hbx.size; omega
        have hne : wr.heap.size ≠ b := by omega
        have y0 : ∀ w', Oth b W0 w' → w'.cell? ⟨wr.heap.size, 0, none⟩ = some (.string f.name) := fun w' ho => oth_cell hbk (by decide) hne ho rfl
        have y1 : ∀ w', Oth b W0 w' → w'.cell? ⟨wr.heap.size, 1, none⟩ = some (.slice f.pa f.params.length f.pc) := fun w' ho => oth_cell hbk (by decide) hne ho rfl
        have HY2 : Hid (∀ w', Oth b W0 w' → w'.cell? ⟨wr.heap.size, 2, none⟩ = some (.slice f.ba f.body.length f.bc)) := fun w' ho => oth_cell hbk (by decide) hne ho rfl
        have hdrew : Below W0.heap.size W0 W0.drew := Below.drew (Below.refl _ _)
        have HEA : Hid (∀ w', Below W0.heap.size W0 w' → Calls Tryd.prog 43 #[.slice f.pa f.params.length f.pc, .func (.func 44) #[] #[]] w' fun e w'' => ∃ va vc, e = .returned (.slice va f.params.length vc) ∧ Hid (Strs w'' (.slice va f.params.length vc) (f.params.map fun x => ⟨(paB x).toArray⟩)) ∧ Below w'.heap.size w' w'') := fun w' hb => by
          have hbw : Below w0.heap.size w0 w' := (HB.out.trans HBX.out).trans (hb.mono hsx)
          obtain ⟨_, _, _, _, hpr, hpo, _⟩ := HFI.out
          refine (eachParam_any f.params f.pa f.pc w' (by have := HFN.out.2.2; omega) (hpr.below hbw) (fun x hx w'' hb' => param_any x w'' (hpo x hx) ((HNT.out.stay hbw).stay hb') (HFN.out.2.1 x hx))).mono fun e w'' ⟨v, he, hs, hb'⟩ => ?_
          obtain ⟨va, vc, rfl, hs'⟩ := strs_len hs
          exact ⟨va, vc, he, hs', hb'⟩
        have HLM : Hid ((f.params.map fun x => (⟨(paB x).toArray⟩ : ByteArray)).length ≤ 1000000) := by show _ ≤ _; rw [List.length_map]; have := HFN.out.2.2; omega
        have HL1 : Hid ((lj ++ lineB 0 (cat [⟨#[102, 110, 32]⟩, f.name, ⟨#[40]⟩, ⟨(comB (f.params.map paB)).toArray⟩, ⟨#[41, 32, 123]⟩])).length ≤ 140737488355328) := by
          show _ ≤ _; have := HLF.out; rw [HTF.out] at this; simp only [List.length_append] at *; omega
        have HL0 : Hid ((comB (f.params.map paB)).length ≤ 140737488355328) := by
          show _ ≤ _; have := HL1.out; simp [lineB, cat] at this; omega
        clear hW0 hbx hbk k0 k1 k2
        go_region_held3 (fun w' => Oth b W0 w') (first | exact oth_below (by assumption) | exact Lib.OthersKept.trans (by assumption) (oth_below (by assumption)) | exact Lib.OthersKept.alloc (by assumption) _ | assumption)
          (first
            | (go_at_call 43; refine (HEA.out _ (by assumption)).mono ?_; rintro e w' ⟨va, vc, rfl, hs, hb⟩; have hB : Below W0.heap.size W0 w' := Below.on (by assumption) hb)
            | (go_at_call 40; refine (commas_of hs.out (comB_pa f.params) HLM.out HL0.out).mono ?_; rintro e w' ⟨rfl, hb⟩; have hB : Below W0.heap.size W0 w' := Below.on (by assumption) hb)
            | (go_at_call 39; refine (line_in (xs := [⟨#[102, 110, 32]⟩, f.name, ⟨#[40]⟩, ⟨(comB (f.params.map paB)).toArray⟩, ⟨#[41, 32, 123]⟩]) HPX.out (by assumption) hsx (Nat.le_of_ble_eq_true rfl) (by decide) HL1.out).mono ?_; rintro e w' ⟨rfl, hpl, hbl, hol⟩))
        have y2 := HY2.out _ hol
        have HL2 : Hid (((lj ++ lineB 0 (cat [⟨#[102, 110, 32]⟩, f.name, ⟨#[40]⟩, ⟨(comB (f.params.map paB)).toArray⟩, ⟨#[41, 32, 123]⟩])) ++ txSs f.body (0 + 1)).length ≤ 140737488355328) := by
          show _ ≤ _; have := HLF.out; rw [HTF.out] at this; simp only [List.length_append, Nat.zero_add] at *; omega
        have HBL : Hid (Below w0.heap.size w0 w') := (HB.out.trans HBX.out).trans hbl.out
        clear y0 y1 hs
        go_wp2_with fail
        refine (bodyD w0 2 b _ 0 f.body f.ba f.bc w' HBL.out hpl.out (by omega) (by omega) HFI.out.2.2.2.2.2.2 HFN.out.1 HL2.out).mono ?_
        rintro e w2 ⟨rfl, hp2, hb2, ho2⟩
        have HP2 : Hid (PgT w0.heap.size b ((lj ++ lineB 0 (cat [⟨#[102, 110, 32]⟩, f.name, ⟨#[40]⟩, ⟨(comB (f.params.map paB)).toArray⟩, ⟨#[41, 32, 123]⟩])) ++ txSs f.body (0 + 1)) 0 w2) := hp2
        have hs2 : w0.heap.size ≤ w2.heap.size := (HBL.out.trans hb2).size
        have HL3 : Hid ((((lj ++ lineB 0 (cat [⟨#[102, 110, 32]⟩, f.name, ⟨#[40]⟩, ⟨(comB (f.params.map paB)).toArray⟩, ⟨#[41, 32, 123]⟩])) ++ txSs f.body (0 + 1)) ++ lineB 0 (cat [⟨#[125]⟩])).length ≤ 140737488355328) := by
          show _ ≤ _; have := HLF.out; rw [HTF.out] at this; simp only [List.length_append, Nat.zero_add] at *; omega
        clear hp2 y2
        go_wp2_with fail
        refine (line_new w0.heap.size b _ 0 [⟨#[125]⟩] w2 HP2.out hs2 (Nat.le_of_ble_eq_true rfl) (by decide) HL3.out).mono ?_
        rintro e w3 ⟨rfl, hp3, hb3, ho3⟩
        have HP3 : Hid (PgT w0.heap.size b (lj ++ txF f) 0 w3) := by
          show PgT _ _ _ _ _; rw [HTF.out, ← List.append_assoc, ← List.append_assoc]; exact hp3
        have hb4 : Below w0.heap.size w w3 := ((HBX.out.trans hbl.out).trans hb2).trans (((Below.refl _ w2).alloc hs2 _).trans hb3)
        have ho4 : Oth b w w3 := ((HOX.out.trans hol).trans ho2).trans (((Lib.OthersKept.refl _ _ w2).alloc _).trans ho3)
        clear hp3
        go_wp2_with fail
        go_roundw
        case rel => exact ⟨j + 1, by omega, by go_num, by show PgT _ _ _ _ _; rw [HT.out, ← List.append_assoc, HLJH.out]; exact HP3.out, hb4, ho4⟩
        case measure => simp [intOf]; omega
      · obtain rfl : j = p.funcs.length := by omega
        go_wp2_with fail
        go_end0
        refine ⟨rfl, ?_, hbj, hoj⟩
        have := HPJ.out
        rw [List.take_length] at this
        rw [HTP.out]; exact this
  · have HX : Hid (l1 = []) := by show _ = _; rw [← HL1.out, txW, if_pos (by omega)]
    have hwi : ¬ (0 : Int) < (p.widen.length : Int) := by omega
    have hb0 := (Below.refl _ w).alloc (Nat.le_refl _) (.cells #[.slice p.wa p.widen.length p.wc, .slice p.fa p.funcs.length p.fc] 25)
    have HPG : Hid (PgT w0.heap.size b l1 0 (w.alloc (.cells #[.slice p.wa p.widen.length p.wc, .slice p.fa p.funcs.length p.fc] 25))) := by show PgT _ _ _ _ _; rw [HX.out]; exact HP.out.stay hb0
    have hb1 : Below w0.heap.size w _ := hb0.mono hsw
    have hoA : Oth b w _ := oth_below hb0
    go_enter Tryd.func24, Tryd.ntmps24
    go_wp2_with fail
    go_loopw [20] (fun t20 wr => ∃ (j : Nat), j ≤ p.funcs.length ∧ t20 = .int .i64 j ∧ Hid (PgT w0.heap.size b (l1 ++ txFs (p.funcs.take j)) 0 wr) ∧ Below w0.heap.size w wr ∧ Oth b w wr) (fun t20 _ => p.funcs.length - (intOf t20).toNat)
    case atStart => exact ⟨0, Nat.zero_le _, rfl, by show PgT _ _ _ _ _; simpa [txFs] using HPG.out, hb1, hoA⟩
    case round =>
      obtain ⟨j, hj, rfl, HPJ, hbj, hoj⟩ := hrel
      clear HPG hb1 hb0 hoA
      have hwj := hbj.size
      have hbj0 : Below w0.heap.size w0 wr := HB.out.trans hbj
      by_cases hlt : j < p.funcs.length
      · obtain ⟨rb, o, hfa, k0, k1, k2⟩ := rowF_at (HR.out.below hbj0) hlt
        rw [hfa]
        have hli : (j : Int) < (p.funcs.length : Int) := by omega
        have HT : Hid (txFs (p.funcs.take (j + 1)) = txFs (p.funcs.take j) ++ txF p.funcs[j]) := txFs_take p.funcs j hlt
        have HLE : Hid ((txFs (p.funcs.take (j + 1))).length ≤ (txFs p.funcs).length) := txFs_le p.funcs (j + 1)
        have HFN : Hid (FnPr w0 p.funcs[j]) := HF.out p.funcs[j] (List.getElem_mem hlt)
        have HFI : Hid (p.funcs[j].In w0) := HFS.out p.funcs[j] (List.getElem_mem hlt)
        generalize p.funcs[j] = f at *
        have hblt : b < wr.heap.size := by obtain ⟨q, h1⟩ := HPJ.out.some; exact h1.lt
        have HLF : Hid ((l1 ++ txFs (p.funcs.take j)).length + (txF f).length ≤ 140737488355328) := by
          show _ ≤ _; have := HLE.out; have := HLEN.out; rw [HT.out] at *; simp only [List.length_append] at *; omega
        have HTF : Hid (txF f = lineB 0 (cat [⟨#[102, 110, 32]⟩, f.name, ⟨#[40]⟩, ⟨(comB (f.params.map paB)).toArray⟩, ⟨#[41, 32, 123]⟩]) ++ txSs f.body 1 ++ lineB 0 (cat [⟨#[125]⟩])) := by show _ = _; simp [txF, cat]
        obtain ⟨lj, HLJ⟩ : ∃ lj, l1 ++ txFs (p.funcs.take j) = lj := ⟨_, rfl⟩
        rw [HLJ] at HPJ HLF
        have HLJH : Hid (l1 ++ txFs (p.funcs.take j) = lj) := HLJ
        clear HLJ
        go_wp2_with fail
        obtain ⟨W0, hW0⟩ : ∃ W0, wr.alloc (.cells #[.string f.name, .slice f.pa f.params.length f.pc, .slice f.ba f.body.length f.bc] 36) = W0 := ⟨_, rfl⟩
        have hbx : Below wr.heap.size wr W0 := by rw [← hW0]; exact (Below.refl _ wr).alloc (Nat.le_refl _) _
        have hbk : W0.heap[wr.heap.size]? = some (.cells #[.string f.name, .slice f.pa f.params.length f.pc, .slice f.ba f.body.length f.bc] 36 (0, 0)) := by rw [← hW0]; exact heap_alloc_new wr _
        rw [hW0]
        have HBX : Hid (Below w0.heap.size w W0) := hbj.trans (hbx.mono (by omega))
        have HOX : Hid (Oth b w W0) := hoj.trans (oth_below hbx)
        have HPX : Hid (PgT w0.heap.size b lj 0 W0) := HPJ.out.stay hbx
        have hsx : w0.heap.size ≤ W0.heap.size := by have := hbx.size; omega
        have hne : wr.heap.size ≠ b := by omega
        have y0 : ∀ w', Oth b W0 w' → w'.cell? ⟨wr.heap.size, 0, none⟩ = some (.string f.name) := fun w' ho => oth_cell hbk (by decide) hne ho rfl
        have y1 : ∀ w', Oth b W0 w' → w'.cell? ⟨wr.heap.size, 1, none⟩ = some (.slice f.pa f.params.length f.pc) := fun w' ho => oth_cell hbk (by decide) hne ho rfl
        have HY2 : Hid (∀ w', Oth b W0 w' → w'.cell? ⟨wr.heap.size, 2, none⟩ = some (.slice f.ba f.body.length f.bc)) := fun w' ho => oth_cell hbk (by decide) hne ho rfl
        have hdrew : Below W0.heap.size W0 W0.drew := Below.drew (Below.refl _ _)
        have HEA : Hid (∀ w', Below W0.heap.size W0 w' → Calls Tryd.prog 43 #[.slice f.pa f.params.length f.pc, .func (.func 44) #[] #[]] w' fun e w'' => ∃ va vc, e = .returned (.slice va f.params.length vc) ∧ Hid (Strs w'' (.slice va f.params.length vc) (f.params.map fun x => ⟨(paB x).toArray⟩)) ∧ Below w'.heap.size w' w'') := fun w' hb => by
          have hbw : Below w0.heap.size w0 w' := (HB.out.trans HBX.out).trans (hb.mono hsx)
          obtain ⟨_, _, _, _, hpr, hpo, _⟩ := HFI.out
          refine (eachParam_any f.params f.pa f.pc w' (by have := HFN.out.2.2; omega) (hpr.below hbw) (fun x hx w'' hb' => param_any x w'' (hpo x hx) ((HNT.out.stay hbw).stay hb') (HFN.out.2.1 x hx))).mono fun e w'' ⟨v, he, hs, hb'⟩ => ?_
          obtain ⟨va, vc, rfl, hs'⟩ := strs_len hs
          exact ⟨va, vc, he, hs', hb'⟩
        have HLM : Hid ((f.params.map fun x => (⟨(paB x).toArray⟩ : ByteArray)).length ≤ 1000000) := by show _ ≤ _; rw [List.length_map]; have := HFN.out.2.2; omega
        have HL1 : Hid ((lj ++ lineB 0 (cat [⟨#[102, 110, 32]⟩, f.name, ⟨#[40]⟩, ⟨(comB (f.params.map paB)).toArray⟩, ⟨#[41, 32, 123]⟩])).length ≤ 140737488355328) := by
          show _ ≤ _; have := HLF.out; rw [HTF.out] at this; simp only [List.length_append] at *; omega
        have HL0 : Hid ((comB (f.params.map paB)).length ≤ 140737488355328) := by
          show _ ≤ _; have := HL1.out; simp [lineB, cat] at this; omega
        clear hW0 hbx hbk k0 k1 k2
        go_region_held3 (fun w' => Oth b W0 w') (first | exact oth_below (by assumption) | exact Lib.OthersKept.trans (by assumption) (oth_below (by assumption)) | exact Lib.OthersKept.alloc (by assumption) _ | assumption)
          (first
            | (go_at_call 43; refine (HEA.out _ (by assumption)).mono ?_; rintro e w' ⟨va, vc, rfl, hs, hb⟩; have hB : Below W0.heap.size W0 w' := Below.on (by assumption) hb)
            | (go_at_call 40; refine (commas_of hs.out (comB_pa f.params) HLM.out HL0.out).mono ?_; rintro e w' ⟨rfl, hb⟩; have hB : Below W0.heap.size W0 w' := Below.on (by assumption) hb)
            | (go_at_call 39; refine (line_in (xs := [⟨#[102, 110, 32]⟩, f.name, ⟨#[40]⟩, ⟨(comB (f.params.map paB)).toArray⟩, ⟨#[41, 32, 123]⟩]) HPX.out (by assumption) hsx (Nat.le_of_ble_eq_true rfl) (by decide) HL1.out).mono ?_; rintro e w' ⟨rfl, hpl, hbl, hol⟩))
        have y2 := HY2.out _ hol
        have HL2 : Hid (((lj ++ lineB 0 (cat [⟨#[102, 110, 32]⟩, f.name, ⟨#[40]⟩, ⟨(comB (f.params.map paB)).toArray⟩, ⟨#[41, 32, 123]⟩])) ++ txSs f.body (0 + 1)).length ≤ 140737488355328) := by
          show _ ≤ _; have := HLF.out; rw [HTF.out] at this; simp only [List.length_append, Nat.zero_add] at *; omega
        have HBL : Hid (Below w0.heap.size w0 w') := (HB.out.trans HBX.out).trans hbl.out
        clear y0 y1 hs
        go_wp2_with fail
        refine (bodyD w0 2 b _ 0 f.body f.ba f.bc w' HBL.out hpl.out (by omega) (by omega) HFI.out.2.2.2.2.2.2 HFN.out.1 HL2.out).mono ?_
        rintro e w2 ⟨rfl, hp2, hb2, ho2⟩
        have HP2 : Hid (PgT w0.heap.size b ((lj ++ lineB 0 (cat [⟨#[102, 110, 32]⟩, f.name, ⟨#[40]⟩, ⟨(comB (f.params.map paB)).toArray⟩, ⟨#[41, 32, 123]⟩])) ++ txSs f.body (0 + 1)) 0 w2) := hp2
        have hs2 : w0.heap.size ≤ w2.heap.size := (HBL.out.trans hb2).size
        have HL3 : Hid ((((lj ++ lineB 0 (cat [⟨#[102, 110, 32]⟩, f.name, ⟨#[40]⟩, ⟨(comB (f.params.map paB)).toArray⟩, ⟨#[41, 32, 123]⟩])) ++ txSs f.body (0 + 1)) ++ lineB 0 (cat [⟨#[125]⟩])).length ≤ 140737488355328) := by
          show _ ≤ _; have := HLF.out; rw [HTF.out] at this; simp only [List.length_append, Nat.zero_add] at *; omega
        clear hp2 y2
        go_wp2_with fail
        refine (line_new w0.heap.size b _ 0 [⟨#[125]⟩] w2 HP2.out hs2 (Nat.le_of_ble_eq_true rfl) (by decide) HL3.out).mono ?_
        rintro e w3 ⟨rfl, hp3, hb3, ho3⟩
        have HP3 : Hid (PgT w0.heap.size b (lj ++ txF f) 0 w3) := by
          show PgT _ _ _ _ _; rw [HTF.out, ← List.append_assoc, ← List.append_assoc]; exact hp3
        have hb4 : Below w0.heap.size w w3 := ((HBX.out.trans hbl.out).trans hb2).trans (((Below.refl _ w2).alloc hs2 _).trans hb3)
        have ho4 : Oth b w w3 := ((HOX.out.trans hol).trans ho2).trans (((Lib.OthersKept.refl _ _ w2).alloc _).trans ho3)
        clear hp3
        go_wp2_with fail
        go_roundw
        case rel => exact ⟨j + 1, by omega, by go_num, by show PgT _ _ _ _ _; rw [HT.out, ← List.append_assoc, HLJH.out]; exact HP3.out, hb4, ho4⟩
        case measure => simp [intOf]; omega
      · obtain rfl : j = p.funcs.length := by omega
        go_wp2_with fail
        go_end0
        refine ⟨rfl, ?_, hbj, hoj⟩
        have := HPJ.out
        rw [List.take_length] at this
        rw [HTP.out]; exact this
end Go.Proofs.YtbpemackmadhgabDoor

/- page.stmt at its other kinds: those of one line, and loops. -/
namespace Go.Proofs.YtbpemackmadhgabDoor
open Go.RowKit Go.Sort

set_option maxRecDepth 100000 in
set_option maxHeartbeats 8000000 in
theorem stmt1 (w0 : World) (s : St) (hk : s.kind = 1) (hin : s.In w0) (ht : Tabs w0) (hnt : NumT w0) (hoa : OkE s.a) (hza : s.a.sz ≤ 1000000) : StmtPr w0 s := by
  intro b l d w hB hp hd hlen
  have HT : Hid (lineB d (cat [⟨#[108, 101, 116, 32]⟩, s.name, ⟨#[32, 61, 32]⟩, ⟨(txE s.a).toArray⟩, ⟨#[59]⟩]) = txS s d) := by
    show _ = _; cases s; simp only [St.kind] at hk; subst hk; simp [txS, cat, St.a, St.name]
  rw [← HT.out] at hlen ⊢
  have HLEN : Hid ((l ++ lineB d (cat [⟨#[108, 101, 116, 32]⟩, s.name, ⟨#[32, 61, 32]⟩, ⟨(txE s.a).toArray⟩, ⟨#[59]⟩])).length ≤ 140737488355328) := hlen
  obtain ⟨W0, hW0⟩ : ∃ W0, w.alloc (.cells #[.int .i64 1, .string s.name, .int .i64 s.n, .int .i64 s.a.kind, .int .i64 s.a.n, .string s.a.name, .slice s.a.a s.a.args.length s.a.cap, .int .i64 s.b.kind, .int .i64 s.b.n, .string s.b.name, .slice s.b.a s.b.args.length s.b.cap, .slice s.ba s.body.length s.bc, .slice s.ea s.els.length s.ec, .slice s.ca s.cases.length s.cc] 53) = W0 := ⟨_, rfl⟩
  have hbx : Below w.heap.size w W0 := by rw [← hW0]; exact (Below.refl _ w).alloc (Nat.le_refl _) _
  have hbk : W0.heap[w.heap.size]? = some (.cells #[.int .i64 1, .string s.name, .int .i64 s.n, .int .i64 s.a.kind, .int .i64 s.a.n, .string s.a.name, .slice s.a.a s.a.args.length s.a.cap, .int .i64 s.b.kind, .int .i64 s.b.n, .string s.b.name, .slice s.b.a s.b.args.length s.b.cap, .slice s.ba s.body.length s.bc, .slice s.ea s.els.length s.ec, .slice s.ca s.cases.length s.cc] 53 (0, 0)) := by rw [← hW0]; exact heap_alloc_new w _
  have hsw := hB.size
  have hB0 : Below w0.heap.size w0 W0 := hB.trans (hbx.mono hsw)
  have hsx : w0.heap.size ≤ W0.heap.size := hB0.size
  have hblt : b < w.heap.size := by obtain ⟨q, h1⟩ := hp.some; exact h1.lt
  have hne : w.heap.size ≠ b := by omega
  have HPX : Hid (PgT w0.heap.size b l d W0) := hp.stay hbx
  have HOX : Hid (Oth b w W0) := oth_below hbx
  have HBX : Hid (Below w0.heap.size w W0) := hbx.mono hsw
  have HXA : Hid (∀ w', Below W0.heap.size W0 w' → Calls Tryd.prog 81 #[.agg #[.int .i64 s.a.kind, .int .i64 s.a.n, .string s.a.name, .slice s.a.a s.a.args.length s.a.cap]] w' fun e w'' => e = .returned (sB (txE s.a)) ∧ Below w'.heap.size w' w'') := fun w' h => expr_any s.a w' ((St.in_iff.1 hin).2.2.2.1.stay (hB0.trans (h.mono hsx))) (ht.stay (hB0.trans (h.mono hsx))) (hnt.stay (hB0.trans (h.mono hsx))) hoa hza
  have y1 : ∀ w', Oth b W0 w' → w'.cell? ⟨w.heap.size, 1, none⟩ = some (.string s.name) := fun w' ho => oth_cell hbk (by decide) hne ho rfl
  have y3 : ∀ w', Oth b W0 w' → w'.cell? ⟨w.heap.size, 3, none⟩ = some (.int .i64 s.a.kind) := fun w' ho => oth_cell hbk (by decide) hne ho rfl
  have y4 : ∀ w', Oth b W0 w' → w'.cell? ⟨w.heap.size, 4, none⟩ = some (.int .i64 s.a.n) := fun w' ho => oth_cell hbk (by decide) hne ho rfl
  have y5 : ∀ w', Oth b W0 w' → w'.cell? ⟨w.heap.size, 5, none⟩ = some (.string s.a.name) := fun w' ho => oth_cell hbk (by decide) hne ho rfl
  have y6 : ∀ w', Oth b W0 w' → w'.cell? ⟨w.heap.size, 6, none⟩ = some (.slice s.a.a s.a.args.length s.a.cap) := fun w' ho => oth_cell hbk (by decide) hne ho rfl
  have HW0 := show Hid _ from hW0
  have hdrew : Below W0.heap.size W0 W0.drew := Below.drew (Below.refl _ _)
  clear hW0 hin ht hnt hp hlen hbx hbk hblt hB0 hB hoa hza
  unfold St.val
  rw [hk]
  go_enter Tryd.func64, Tryd.ntmps64
  go_wp2_with fail
  rw [HW0.out]
  clear HW0
  go_region_held3 (fun w' => Oth b W0 w') (first | exact oth_below (by assumption) | exact Lib.OthersKept.trans (by assumption) (oth_below (by assumption)) | exact Lib.OthersKept.alloc (by assumption) _ | assumption)
    (first
      | (go_at_call_of 81 (s.a.kind); refine (HXA.out _ (by assumption)).mono ?_; rintro e w' ⟨rfl, hb⟩; have hB : Below W0.heap.size W0 w' := Below.on (by assumption) hb)
      | (go_at_call 39; refine (line_in (xs := [⟨#[108, 101, 116, 32]⟩, s.name, ⟨#[32, 61, 32]⟩, ⟨(txE s.a).toArray⟩, ⟨#[59]⟩]) HPX.out (by assumption) hsx (Nat.le_of_ble_eq_true rfl) (by omega) HLEN.out).mono ?_; rintro e w' ⟨rfl, hpl, hbl, hol⟩))
  all_goals go_wp2_with fail
  all_goals go_end0
  all_goals exact ⟨rfl, hpl.out, HBX.out.trans hbl.out, HOX.out.trans hol⟩
end Go.Proofs.YtbpemackmadhgabDoor

/- page.stmt at its other kinds: those of one line, and loops. -/
namespace Go.Proofs.YtbpemackmadhgabDoor
open Go.RowKit Go.Sort

set_option maxRecDepth 100000 in
set_option maxHeartbeats 8000000 in
theorem stmt2 (w0 : World) (s : St) (hk : s.kind = 2) (hin : s.In w0) (hnt : NumT w0) : StmtPr w0 s := by
  intro b l d w hB hp hd hlen
  have HT : Hid (lineB d (cat [⟨#[108, 101, 116, 32]⟩, s.name, ⟨#[91]⟩, ⟨(Lib.itoa s.n).toArray⟩, ⟨#[93, 59]⟩]) = txS s d) := by
    show _ = _; cases s; simp only [St.kind] at hk; subst hk; simp [txS, cat, St.n, St.name]
  rw [← HT.out] at hlen ⊢
  have HLEN : Hid ((l ++ lineB d (cat [⟨#[108, 101, 116, 32]⟩, s.name, ⟨#[91]⟩, ⟨(Lib.itoa s.n).toArray⟩, ⟨#[93, 59]⟩])).length ≤ 140737488355328) := hlen
  obtain ⟨W0, hW0⟩ : ∃ W0, w.alloc (.cells #[.int .i64 2, .string s.name, .int .i64 s.n, .int .i64 s.a.kind, .int .i64 s.a.n, .string s.a.name, .slice s.a.a s.a.args.length s.a.cap, .int .i64 s.b.kind, .int .i64 s.b.n, .string s.b.name, .slice s.b.a s.b.args.length s.b.cap, .slice s.ba s.body.length s.bc, .slice s.ea s.els.length s.ec, .slice s.ca s.cases.length s.cc] 53) = W0 := ⟨_, rfl⟩
  have hbx : Below w.heap.size w W0 := by rw [← hW0]; exact (Below.refl _ w).alloc (Nat.le_refl _) _
  have hbk : W0.heap[w.heap.size]? = some (.cells #[.int .i64 2, .string s.name, .int .i64 s.n, .int .i64 s.a.kind, .int .i64 s.a.n, .string s.a.name, .slice s.a.a s.a.args.length s.a.cap, .int .i64 s.b.kind, .int .i64 s.b.n, .string s.b.name, .slice s.b.a s.b.args.length s.b.cap, .slice s.ba s.body.length s.bc, .slice s.ea s.els.length s.ec, .slice s.ca s.cases.length s.cc] 53 (0, 0)) := by rw [← hW0]; exact heap_alloc_new w _
  have hsw := hB.size
  have hB0 : Below w0.heap.size w0 W0 := hB.trans (hbx.mono hsw)
  have hsx : w0.heap.size ≤ W0.heap.size := hB0.size
  have hblt : b < w.heap.size := by obtain ⟨q, h1⟩ := hp.some; exact h1.lt
  have hne : w.heap.size ≠ b := by omega
  have HPX : Hid (PgT w0.heap.size b l d W0) := hp.stay hbx
  have HOX : Hid (Oth b w W0) := oth_below hbx
  have HBX : Hid (Below w0.heap.size w W0) := hbx.mono hsw
  have HXN : Hid (∀ w', Below W0.heap.size W0 w' → Calls Tryd.prog 42 #[.int .i64 s.n] w' fun e w'' => e = .returned (sB (Lib.itoa s.n)) ∧ Below w'.heap.size w' w'') := fun w' h => number_any s.n w' (St.in_iff.1 hin).2.2.1 (hnt.stay (hB0.trans (h.mono hsx)))
  have y1 : ∀ w', Oth b W0 w' → w'.cell? ⟨w.heap.size, 1, none⟩ = some (.string s.name) := fun w' ho => oth_cell hbk (by decide) hne ho rfl
  have y2 : ∀ w', Oth b W0 w' → w'.cell? ⟨w.heap.size, 2, none⟩ = some (.int .i64 s.n) := fun w' ho => oth_cell hbk (by decide) hne ho rfl
  have HW0 := show Hid _ from hW0
  have hdrew : Below W0.heap.size W0 W0.drew := Below.drew (Below.refl _ _)
  clear hW0 hin hnt hp hlen hbx hbk hblt hB0 hB
  unfold St.val
  rw [hk]
  go_enter Tryd.func64, Tryd.ntmps64
  go_wp2_with fail
  rw [HW0.out]
  clear HW0
  go_region_held3 (fun w' => Oth b W0 w') (first | exact oth_below (by assumption) | exact Lib.OthersKept.trans (by assumption) (oth_below (by assumption)) | exact Lib.OthersKept.alloc (by assumption) _ | assumption)
    (first
      | (go_at_call 42; refine (HXN.out _ (by assumption)).mono ?_; rintro e w' ⟨rfl, hb⟩; have hB : Below W0.heap.size W0 w' := Below.on (by assumption) hb)
      | (go_at_call 39; refine (line_in (xs := [⟨#[108, 101, 116, 32]⟩, s.name, ⟨#[91]⟩, ⟨(Lib.itoa s.n).toArray⟩, ⟨#[93, 59]⟩]) HPX.out (by assumption) hsx (Nat.le_of_ble_eq_true rfl) (by omega) HLEN.out).mono ?_; rintro e w' ⟨rfl, hpl, hbl, hol⟩))
  all_goals go_wp2_with fail
  all_goals go_end0
  all_goals exact ⟨rfl, hpl.out, HBX.out.trans hbl.out, HOX.out.trans hol⟩
end Go.Proofs.YtbpemackmadhgabDoor

/- page.stmt at its other kinds: those of one line, and loops. -/
namespace Go.Proofs.YtbpemackmadhgabDoor
open Go.RowKit Go.Sort

set_option maxRecDepth 100000 in
set_option maxHeartbeats 8000000 in
theorem stmt3 (w0 : World) (s : St) (hk : s.kind = 3) (hin : s.In w0) (ht : Tabs w0) (hnt : NumT w0) (hoa : OkE s.a) (hza : s.a.sz ≤ 1000000) : StmtPr w0 s := by
  intro b l d w hB hp hd hlen
  have HT : Hid (lineB d (cat [s.name, ⟨#[32, 61, 32]⟩, ⟨(txE s.a).toArray⟩, ⟨#[59]⟩]) = txS s d) := by
    show _ = _; cases s; simp only [St.kind] at hk; subst hk; simp [txS, cat, St.a, St.name]
  rw [← HT.out] at hlen ⊢
  have HLEN : Hid ((l ++ lineB d (cat [s.name, ⟨#[32, 61, 32]⟩, ⟨(txE s.a).toArray⟩, ⟨#[59]⟩])).length ≤ 140737488355328) := hlen
  obtain ⟨W0, hW0⟩ : ∃ W0, w.alloc (.cells #[.int .i64 3, .string s.name, .int .i64 s.n, .int .i64 s.a.kind, .int .i64 s.a.n, .string s.a.name, .slice s.a.a s.a.args.length s.a.cap, .int .i64 s.b.kind, .int .i64 s.b.n, .string s.b.name, .slice s.b.a s.b.args.length s.b.cap, .slice s.ba s.body.length s.bc, .slice s.ea s.els.length s.ec, .slice s.ca s.cases.length s.cc] 53) = W0 := ⟨_, rfl⟩
  have hbx : Below w.heap.size w W0 := by rw [← hW0]; exact (Below.refl _ w).alloc (Nat.le_refl _) _
  have hbk : W0.heap[w.heap.size]? = some (.cells #[.int .i64 3, .string s.name, .int .i64 s.n, .int .i64 s.a.kind, .int .i64 s.a.n, .string s.a.name, .slice s.a.a s.a.args.length s.a.cap, .int .i64 s.b.kind, .int .i64 s.b.n, .string s.b.name, .slice s.b.a s.b.args.length s.b.cap, .slice s.ba s.body.length s.bc, .slice s.ea s.els.length s.ec, .slice s.ca s.cases.length s.cc] 53 (0, 0)) := by rw [← hW0]; exact heap_alloc_new w _
  have hsw := hB.size
  have hB0 : Below w0.heap.size w0 W0 := hB.trans (hbx.mono hsw)
  have hsx : w0.heap.size ≤ W0.heap.size := hB0.size
  have hblt : b < w.heap.size := by obtain ⟨q, h1⟩ := hp.some; exact h1.lt
  have hne : w.heap.size ≠ b := by omega
  have HPX : Hid (PgT w0.heap.size b l d W0) := hp.stay hbx
  have HOX : Hid (Oth b w W0) := oth_below hbx
  have HBX : Hid (Below w0.heap.size w W0) := hbx.mono hsw
  have HXA : Hid (∀ w', Below W0.heap.size W0 w' → Calls Tryd.prog 81 #[.agg #[.int .i64 s.a.kind, .int .i64 s.a.n, .string s.a.name, .slice s.a.a s.a.args.length s.a.cap]] w' fun e w'' => e = .returned (sB (txE s.a)) ∧ Below w'.heap.size w' w'') := fun w' h => expr_any s.a w' ((St.in_iff.1 hin).2.2.2.1.stay (hB0.trans (h.mono hsx))) (ht.stay (hB0.trans (h.mono hsx))) (hnt.stay (hB0.trans (h.mono hsx))) hoa hza
  have y1 : ∀ w', Oth b W0 w' → w'.cell? ⟨w.heap.size, 1, none⟩ = some (.string s.name) := fun w' ho => oth_cell hbk (by decide) hne ho rfl
  have y3 : ∀ w', Oth b W0 w' → w'.cell? ⟨w.heap.size, 3, none⟩ = some (.int .i64 s.a.kind) := fun w' ho => oth_cell hbk (by decide) hne ho rfl
  have y4 : ∀ w', Oth b W0 w' → w'.cell? ⟨w.heap.size, 4, none⟩ = some (.int .i64 s.a.n) := fun w' ho => oth_cell hbk (by decide) hne ho rfl
  have y5 : ∀ w', Oth b W0 w' → w'.cell? ⟨w.heap.size, 5, none⟩ = some (.string s.a.name) := fun w' ho => oth_cell hbk (by decide) hne ho rfl
  have y6 : ∀ w', Oth b W0 w' → w'.cell? ⟨w.heap.size, 6, none⟩ = some (.slice s.a.a s.a.args.length s.a.cap) := fun w' ho => oth_cell hbk (by decide) hne ho rfl
  have HW0 := show Hid _ from hW0
  have hdrew : Below W0.heap.size W0 W0.drew := Below.drew (Below.refl _ _)
  clear hW0 hin ht hnt hp hlen hbx hbk hblt hB0 hB hoa hza
  unfold St.val
  rw [hk]
  go_enter Tryd.func64, Tryd.ntmps64
  go_wp2_with fail
  rw [HW0.out]
  clear HW0
  go_region_held3 (fun w' => Oth b W0 w') (first | exact oth_below (by assumption) | exact Lib.OthersKept.trans (by assumption) (oth_below (by assumption)) | exact Lib.OthersKept.alloc (by assumption) _ | assumption)
    (first
      | (go_at_call_of 81 (s.a.kind); refine (HXA.out _ (by assumption)).mono ?_; rintro e w' ⟨rfl, hb⟩; have hB : Below W0.heap.size W0 w' := Below.on (by assumption) hb)
      | (go_at_call 39; refine (line_in (xs := [s.name, ⟨#[32, 61, 32]⟩, ⟨(txE s.a).toArray⟩, ⟨#[59]⟩]) HPX.out (by assumption) hsx (Nat.le_of_ble_eq_true rfl) (by omega) HLEN.out).mono ?_; rintro e w' ⟨rfl, hpl, hbl, hol⟩))
  all_goals go_wp2_with fail
  all_goals go_end0
  all_goals exact ⟨rfl, hpl.out, HBX.out.trans hbl.out, HOX.out.trans hol⟩
end Go.Proofs.YtbpemackmadhgabDoor

/- page.stmt at its other kinds: those of one line, and loops. -/
namespace Go.Proofs.YtbpemackmadhgabDoor
open Go.RowKit Go.Sort

set_option maxRecDepth 100000 in
set_option maxHeartbeats 8000000 in
theorem stmt4 (w0 : World) (s : St) (hk : s.kind = 4) (hin : s.In w0) (ht : Tabs w0) (hnt : NumT w0) (hoa : OkE s.a) (hza : s.a.sz ≤ 1000000) (hob : OkE s.b) (hzb : s.b.sz ≤ 1000000) : StmtPr w0 s := by
  intro b l d w hB hp hd hlen
  have HT : Hid (lineB d (cat [s.name, ⟨#[91]⟩, ⟨(txE s.a).toArray⟩, ⟨#[93, 32, 61, 32]⟩, ⟨(txE s.b).toArray⟩, ⟨#[59]⟩]) = txS s d) := by
    show _ = _; cases s; simp only [St.kind] at hk; subst hk; simp [txS, cat, St.a, St.b, St.name]
  rw [← HT.out] at hlen ⊢
  have HLEN : Hid ((l ++ lineB d (cat [s.name, ⟨#[91]⟩, ⟨(txE s.a).toArray⟩, ⟨#[93, 32, 61, 32]⟩, ⟨(txE s.b).toArray⟩, ⟨#[59]⟩])).length ≤ 140737488355328) := hlen
  obtain ⟨W0, hW0⟩ : ∃ W0, w.alloc (.cells #[.int .i64 4, .string s.name, .int .i64 s.n, .int .i64 s.a.kind, .int .i64 s.a.n, .string s.a.name, .slice s.a.a s.a.args.length s.a.cap, .int .i64 s.b.kind, .int .i64 s.b.n, .string s.b.name, .slice s.b.a s.b.args.length s.b.cap, .slice s.ba s.body.length s.bc, .slice s.ea s.els.length s.ec, .slice s.ca s.cases.length s.cc] 53) = W0 := ⟨_, rfl⟩
  have hbx : Below w.heap.size w W0 := by rw [← hW0]; exact (Below.refl _ w).alloc (Nat.le_refl _) _
  have hbk : W0.heap[w.heap.size]? = some (.cells #[.int .i64 4, .string s.name, .int .i64 s.n, .int .i64 s.a.kind, .int .i64 s.a.n, .string s.a.name, .slice s.a.a s.a.args.length s.a.cap, .int .i64 s.b.kind, .int .i64 s.b.n, .string s.b.name, .slice s.b.a s.b.args.length s.b.cap, .slice s.ba s.body.length s.bc, .slice s.ea s.els.length s.ec, .slice s.ca s.cases.length s.cc] 53 (0, 0)) := by rw [← hW0]; exact heap_alloc_new w _
  have hsw := hB.size
  have hB0 : Below w0.heap.size w0 W0 := hB.trans (hbx.mono hsw)
  have hsx : w0.heap.size ≤ W0.heap.size := hB0.size
  have hblt : b < w.heap.size := by obtain ⟨q, h1⟩ := hp.some; exact h1.lt
  have hne : w.heap.size ≠ b := by omega
  have HPX : Hid (PgT w0.heap.size b l d W0) := hp.stay hbx
  have HOX : Hid (Oth b w W0) := oth_below hbx
  have HBX : Hid (Below w0.heap.size w W0) := hbx.mono hsw
  have HXA : Hid (∀ w', Below W0.heap.size W0 w' → Calls Tryd.prog 81 #[.agg #[.int .i64 s.a.kind, .int .i64 s.a.n, .string s.a.name, .slice s.a.a s.a.args.length s.a.cap]] w' fun e w'' => e = .returned (sB (txE s.a)) ∧ Below w'.heap.size w' w'') := fun w' h => expr_any s.a w' ((St.in_iff.1 hin).2.2.2.1.stay (hB0.trans (h.mono hsx))) (ht.stay (hB0.trans (h.mono hsx))) (hnt.stay (hB0.trans (h.mono hsx))) hoa hza
  have HXB : Hid (∀ w', Below W0.heap.size W0 w' → Calls Tryd.prog 81 #[.agg #[.int .i64 s.b.kind, .int .i64 s.b.n, .string s.b.name, .slice s.b.a s.b.args.length s.b.cap]] w' fun e w'' => e = .returned (sB (txE s.b)) ∧ Below w'.heap.size w' w'') := fun w' h => expr_any s.b w' ((St.in_iff.1 hin).2.2.2.2.1.stay (hB0.trans (h.mono hsx))) (ht.stay (hB0.trans (h.mono hsx))) (hnt.stay (hB0.trans (h.mono hsx))) hob hzb
  have y1 : ∀ w', Oth b W0 w' → w'.cell? ⟨w.heap.size, 1, none⟩ = some (.string s.name) := fun w' ho => oth_cell hbk (by decide) hne ho rfl
  have y3 : ∀ w', Oth b W0 w' → w'.cell? ⟨w.heap.size, 3, none⟩ = some (.int .i64 s.a.kind) := fun w' ho => oth_cell hbk (by decide) hne ho rfl
  have y4 : ∀ w', Oth b W0 w' → w'.cell? ⟨w.heap.size, 4, none⟩ = some (.int .i64 s.a.n) := fun w' ho => oth_cell hbk (by decide) hne ho rfl
  have y5 : ∀ w', Oth b W0 w' → w'.cell? ⟨w.heap.size, 5, none⟩ = some (.string s.a.name) := fun w' ho => oth_cell hbk (by decide) hne ho rfl
  have y6 : ∀ w', Oth b W0 w' → w'.cell? ⟨w.heap.size, 6, none⟩ = some (.slice s.a.a s.a.args.length s.a.cap) := fun w' ho => oth_cell hbk (by decide) hne ho rfl
  have y7 : ∀ w', Oth b W0 w' → w'.cell? ⟨w.heap.size, 7, none⟩ = some (.int .i64 s.b.kind) := fun w' ho => oth_cell hbk (by decide) hne ho rfl
  have y8 : ∀ w', Oth b W0 w' → w'.cell? ⟨w.heap.size, 8, none⟩ = some (.int .i64 s.b.n) := fun w' ho => oth_cell hbk (by decide) hne ho rfl
  have y9 : ∀ w', Oth b W0 w' → w'.cell? ⟨w.heap.size, 9, none⟩ = some (.string s.b.name) := fun w' ho => oth_cell hbk (by decide) hne ho rfl
  have y10 : ∀ w', Oth b W0 w' → w'.cell? ⟨w.heap.size, 10, none⟩ = some (.slice s.b.a s.b.args.length s.b.cap) := fun w' ho => oth_cell hbk (by decide) hne ho rfl
  have HW0 := show Hid _ from hW0
  have hdrew : Below W0.heap.size W0 W0.drew := Below.drew (Below.refl _ _)
  clear hW0 hin ht hnt hp hlen hbx hbk hblt hB0 hB hoa hza hob hzb
  unfold St.val
  rw [hk]
  go_enter Tryd.func64, Tryd.ntmps64
  go_wp2_with fail
  rw [HW0.out]
  clear HW0
  go_region_held3 (fun w' => Oth b W0 w') (first | exact oth_below (by assumption) | exact Lib.OthersKept.trans (by assumption) (oth_below (by assumption)) | exact Lib.OthersKept.alloc (by assumption) _ | assumption)
    (first
      | (go_at_call_of 81 (s.a.kind); refine (HXA.out _ (by assumption)).mono ?_; rintro e w' ⟨rfl, hb⟩; have hB : Below W0.heap.size W0 w' := Below.on (by assumption) hb)
      | (go_at_call_of 81 (s.b.kind); refine (HXB.out _ (by assumption)).mono ?_; rintro e w' ⟨rfl, hb⟩; have hB : Below W0.heap.size W0 w' := Below.on (by assumption) hb)
      | (go_at_call 39; refine (line_in (xs := [s.name, ⟨#[91]⟩, ⟨(txE s.a).toArray⟩, ⟨#[93, 32, 61, 32]⟩, ⟨(txE s.b).toArray⟩, ⟨#[59]⟩]) HPX.out (by assumption) hsx (Nat.le_of_ble_eq_true rfl) (by omega) HLEN.out).mono ?_; rintro e w' ⟨rfl, hpl, hbl, hol⟩))
  all_goals go_wp2_with fail
  all_goals go_end0
  all_goals exact ⟨rfl, hpl.out, HBX.out.trans hbl.out, HOX.out.trans hol⟩
end Go.Proofs.YtbpemackmadhgabDoor

/- page.choice, and page.stmt at an if. -/
namespace Go.Proofs.YtbpemackmadhgabDoor
open Go.RowKit Go.Sort

def txCh (s : St) (d : Nat) : List UInt8 := lineB d (cat [⟨#[105, 102, 32]⟩, ⟨(txE s.a).toArray⟩, ⟨#[32, 123]⟩]) ++ txSs s.body (d + 1) ++ (if s.els.length = 0 then [] else lineB d (cat [⟨#[125, 32, 101, 108, 115, 101, 32, 123]⟩]) ++ txSs s.els (d + 1)) ++ lineB d (cat [⟨#[125]⟩])

set_option maxRecDepth 100000 in
set_option maxHeartbeats 8000000 in
theorem choice_any (w0 : World) (D : Nat) (s : St) (hin : s.In w0) (ht : Tabs w0) (hnt : NumT w0) (hoa : OkE s.a) (hza : s.a.sz ≤ 1000000) (hD : D ≤ 89) (hs : ∀ x ∈ s.body, StmtD w0 (D + 1) x) (hs2 : ∀ x ∈ s.els, StmtD w0 (D + 1) x)
    (b : Nat) (l : List UInt8) (d : Nat) (w : World) (hB : Below w0.heap.size w0 w) (hp : PgT w0.heap.size b l d w) (hd : d ≤ D) (hlen : (l ++ txCh s d).length ≤ 140737488355328) :
    Calls Tryd.prog 82 #[.pointer (some ⟨b, 0, none⟩), s.val] w fun e w' => e = .returned (.tuple #[]) ∧ PgT w0.heap.size b (l ++ txCh s d) d w' ∧ Below w0.heap.size w w' ∧ Oth b w w' := by
  have HL : Hid ((l ++ txCh s d).length ≤ 140737488355328) := hlen
  obtain ⟨W0, hW0⟩ : ∃ W0, w.alloc (.cells #[.int .i64 s.kind, .string s.name, .int .i64 s.n, .int .i64 s.a.kind, .int .i64 s.a.n, .string s.a.name, .slice s.a.a s.a.args.length s.a.cap, .int .i64 s.b.kind, .int .i64 s.b.n, .string s.b.name, .slice s.b.a s.b.args.length s.b.cap, .slice s.ba s.body.length s.bc, .slice s.ea s.els.length s.ec, .slice s.ca s.cases.length s.cc] 53) = W0 := ⟨_, rfl⟩
  have hbx : Below w.heap.size w W0 := by rw [← hW0]; exact (Below.refl _ w).alloc (Nat.le_refl _) _
  have hbk : W0.heap[w.heap.size]? = some (.cells #[.int .i64 s.kind, .string s.name, .int .i64 s.n, .int .i64 s.a.kind, .int .i64 s.a.n, .string s.a.name, .slice s.a.a s.a.args.length s.a.cap, .int .i64 s.b.kind, .int .i64 s.b.n, .string s.b.name, .slice s.b.a s.b.args.length s.b.cap, .slice s.ba s.body.length s.bc, .slice s.ea s.els.length s.ec, .slice s.ca s.cases.length s.cc] 53 (0, 0)) := by rw [← hW0]; exact heap_alloc_new w _
  have hsw := hB.size
  have hB0 : Below w0.heap.size w0 W0 := hB.trans (hbx.mono hsw)
  have hsx : w0.heap.size ≤ W0.heap.size := hB0.size
  have hblt : b < w.heap.size := by obtain ⟨q, h1⟩ := hp.some; exact h1.lt
  have hne : w.heap.size ≠ b := by omega
  have HPX : Hid (PgT w0.heap.size b l d W0) := hp.stay hbx
  have HOX : Hid (Oth b w W0) := oth_below hbx
  have HBX : Hid (Below w0.heap.size w W0) := hbx.mono hsw
  have HBB0 : Hid (Below w0.heap.size w0 W0) := hB0
  have HXA : Hid (Calls Tryd.prog 81 #[.agg #[.int .i64 s.a.kind, .int .i64 s.a.n, .string s.a.name, .slice s.a.a s.a.args.length s.a.cap]] W0 fun e w'' => e = .returned (sB (txE s.a)) ∧ Below W0.heap.size W0 w'') := expr_any s.a W0 ((St.in_iff.1 hin).2.2.2.1.stay hB0) (ht.stay hB0) (hnt.stay hB0) hoa hza
  have HY11 : Hid (∀ w', Oth b W0 w' → w'.cell? ⟨w.heap.size, 11, none⟩ = some (.slice s.ba s.body.length s.bc)) := fun w' ho => oth_cell hbk (by decide) hne ho rfl
  have HY12 : Hid (∀ w', Oth b W0 w' → w'.cell? ⟨w.heap.size, 12, none⟩ = some (.slice s.ea s.els.length s.ec)) := fun w' ho => oth_cell hbk (by decide) hne ho rfl
  have HIN : Hid (s.In w0) := hin
  have HSS : Hid (∀ x ∈ s.body, StmtD w0 (D + 1) x) := hs
  have HSE : Hid (∀ x ∈ s.els, StmtD w0 (D + 1) x) := hs2
  obtain ⟨hel, hec, _, _⟩ := (St.in_iff.1 hin).2.2.2.2.2.2.1.1
  have HW0 := show Hid _ from hW0
  clear hW0 hin ht hnt hoa hza hp hlen hbx hbk hblt hB0 hB hs hs2
  obtain ⟨res, hres⟩ : ∃ res, l ++ txCh s d = res := ⟨_, rfl⟩
  have HRES : Hid (l ++ txCh s d = res) := hres
  rw [hres] at HL ⊢
  clear hres
  have HF1 : Hid ((l ++ lineB d (cat [⟨#[105, 102, 32]⟩, ⟨(txE s.a).toArray⟩, ⟨#[32, 123]⟩])).length ≤ 140737488355328 ∧ ((l ++ lineB d (cat [⟨#[105, 102, 32]⟩, ⟨(txE s.a).toArray⟩, ⟨#[32, 123]⟩])) ++ txSs s.body (d + 1)).length ≤ 140737488355328) := by
    have h := HL.out
    rw [← HRES.out, txCh] at h
    simp only [List.length_append] at h
    refine ⟨?_, ?_⟩ <;> simp only [List.length_append] <;> omega
  unfold St.val
  go_enter Tryd.func82, Tryd.ntmps82
  go_wp2_with fail
  rw [HW0.out]
  clear HW0
  refine HXA.out.mono ?_
  rintro e w1 ⟨rfl, hb1⟩
  have hs1 := hb1.size
  go_wp2_with fail
  refine (line_new w0.heap.size b l d [⟨#[105, 102, 32]⟩, ⟨(txE s.a).toArray⟩, ⟨#[32, 123]⟩] w1 (HPX.out.stay hb1) (by omega) (Nat.le_of_ble_eq_true rfl) (by omega) HF1.out.1).mono ?_
  rintro e w2 ⟨rfl, hp2, hb2, ho2⟩
  have HP2 : Hid (PgT w0.heap.size b (l ++ lineB d (cat [⟨#[105, 102, 32]⟩, ⟨(txE s.a).toArray⟩, ⟨#[32, 123]⟩])) d w2) := hp2
  have HO2 : Hid (Oth b W0 w2) := ((oth_below hb1).alloc _).trans ho2
  have HB2 : Hid (Below w0.heap.size W0 w2) := ((hb1.mono hsx).alloc (by omega) _).trans hb2
  have y11 := HY11.out _ HO2.out
  clear hp2 hb1 hb2 ho2 hs1 HXA
  go_wp2_with fail
  refine (bodyD w0 (D + 1) b _ d s.body s.ba s.bc w2 (HBB0.out.trans HB2.out) HP2.out (by omega) (by omega) (St.in_iff.1 HIN.out).2.2.2.2.2.1 HSS.out HF1.out.2).mono ?_
  rintro e w3 ⟨rfl, hp3, hb3, ho3⟩
  have HP3 : Hid (PgT w0.heap.size b ((l ++ lineB d (cat [⟨#[105, 102, 32]⟩, ⟨(txE s.a).toArray⟩, ⟨#[32, 123]⟩])) ++ txSs s.body (d + 1)) d w3) := hp3
  have HO3 : Hid (Oth b W0 w3) := HO2.out.trans ho3
  have HB3 : Hid (Below w0.heap.size W0 w3) := HB2.out.trans hb3
  have hs3 : w0.heap.size ≤ w3.heap.size := (HBB0.out.trans HB3.out).size
  have y12 := HY12.out _ HO3.out
  clear hp3 hb3 ho3 y11
  by_cases he : 0 < s.els.length
  · have hei : (0 : Int) < (s.els.length : Int) := by omega
    have HEQ : Hid ((((((l ++ lineB d (cat [⟨#[105, 102, 32]⟩, ⟨(txE s.a).toArray⟩, ⟨#[32, 123]⟩])) ++ txSs s.body (d + 1)) ++ lineB d (cat [⟨#[125, 32, 101, 108, 115, 101, 32, 123]⟩])) ++ txSs s.els (d + 1)) ++ lineB d (cat [⟨#[125]⟩])) = res) := by
      show _ = _
      rw [← HRES.out, txCh, if_neg (by omega)]
      simp only [List.append_assoc]
    have HF2 : Hid ((((l ++ lineB d (cat [⟨#[105, 102, 32]⟩, ⟨(txE s.a).toArray⟩, ⟨#[32, 123]⟩])) ++ txSs s.body (d + 1)) ++ lineB d (cat [⟨#[125, 32, 101, 108, 115, 101, 32, 123]⟩])).length ≤ 140737488355328 ∧ ((((l ++ lineB d (cat [⟨#[105, 102, 32]⟩, ⟨(txE s.a).toArray⟩, ⟨#[32, 123]⟩])) ++ txSs s.body (d + 1)) ++ lineB d (cat [⟨#[125, 32, 101, 108, 115, 101, 32, 123]⟩])) ++ txSs s.els (d + 1)).length ≤ 140737488355328 ∧ (((((l ++ lineB d (cat [⟨#[105, 102, 32]⟩, ⟨(txE s.a).toArray⟩, ⟨#[32, 123]⟩])) ++ txSs s.body (d + 1)) ++ lineB d (cat [⟨#[125, 32, 101, 108, 115, 101, 32, 123]⟩])) ++ txSs s.els (d + 1)) ++ lineB d (cat [⟨#[125]⟩])).length ≤ 140737488355328) := by
      have h := HL.out
      rw [← HEQ.out] at h
      simp only [List.length_append] at h
      refine ⟨?_, ?_, ?_⟩ <;> simp only [List.length_append] <;> omega
    go_wp2_with fail
    refine (line_new w0.heap.size b _ d [⟨#[125, 32, 101, 108, 115, 101, 32, 123]⟩] w3 HP3.out hs3 (Nat.le_of_ble_eq_true rfl) (by omega) HF2.out.1).mono ?_
    rintro e w4 ⟨rfl, hp4, hb4, ho4⟩
    have HP4 : Hid (PgT w0.heap.size b (((l ++ lineB d (cat [⟨#[105, 102, 32]⟩, ⟨(txE s.a).toArray⟩, ⟨#[32, 123]⟩])) ++ txSs s.body (d + 1)) ++ lineB d (cat [⟨#[125, 32, 101, 108, 115, 101, 32, 123]⟩])) d w4) := hp4
    have HO4 : Hid (Oth b W0 w4) := HO3.out.trans (((Lib.OthersKept.refl _ _ w3).alloc _).trans ho4)
    have HB4 : Hid (Below w0.heap.size W0 w4) := HB3.out.trans (((Below.refl _ w3).alloc hs3 _).trans hb4)
    have z12 := HY12.out _ HO4.out
    clear hp4 hb4 ho4 y12
    go_wp2_with fail
    refine (bodyD w0 (D + 1) b _ d s.els s.ea s.ec w4 (HBB0.out.trans HB4.out) HP4.out (by omega) (by omega) (St.in_iff.1 HIN.out).2.2.2.2.2.2.1 HSE.out HF2.out.2.1).mono ?_
    rintro e w5 ⟨rfl, hp5, hb5, ho5⟩
    have HP5 : Hid (PgT w0.heap.size b ((((l ++ lineB d (cat [⟨#[105, 102, 32]⟩, ⟨(txE s.a).toArray⟩, ⟨#[32, 123]⟩])) ++ txSs s.body (d + 1)) ++ lineB d (cat [⟨#[125, 32, 101, 108, 115, 101, 32, 123]⟩])) ++ txSs s.els (d + 1)) d w5) := hp5
    have HO5 : Hid (Oth b W0 w5) := HO4.out.trans ho5
    have HB5 : Hid (Below w0.heap.size W0 w5) := HB4.out.trans hb5
    have hs5 : w0.heap.size ≤ w5.heap.size := (HBB0.out.trans HB5.out).size
    clear hp5 hb5 ho5 z12
    go_wp2_with fail
    refine (line_new w0.heap.size b _ d [⟨#[125]⟩] w5 HP5.out hs5 (Nat.le_of_ble_eq_true rfl) (by omega) HF2.out.2.2).mono ?_
    rintro e w6 ⟨rfl, hp6, hb6, ho6⟩
    have HP6 : Hid (PgT w0.heap.size b res d w6) := by show PgT _ _ _ _ _; rw [← HEQ.out]; exact hp6
    clear hp6
    go_wp2_with fail
    go_end0
    exact ⟨rfl, HP6.out, HBX.out.trans (HB5.out.trans (((Below.refl _ w5).alloc hs5 _).trans hb6)), HOX.out.trans (HO5.out.trans (((Lib.OthersKept.refl _ _ w5).alloc _).trans ho6))⟩
  · have hei : ¬ (0 : Int) < (s.els.length : Int) := by omega
    have HEQ : Hid ((((l ++ lineB d (cat [⟨#[105, 102, 32]⟩, ⟨(txE s.a).toArray⟩, ⟨#[32, 123]⟩])) ++ txSs s.body (d + 1)) ++ lineB d (cat [⟨#[125]⟩])) = res) := by
      show _ = _
      rw [← HRES.out, txCh, if_pos (by omega)]
      simp only [List.append_assoc, List.nil_append]
    have HF2 : Hid ((((l ++ lineB d (cat [⟨#[105, 102, 32]⟩, ⟨(txE s.a).toArray⟩, ⟨#[32, 123]⟩])) ++ txSs s.body (d + 1)) ++ lineB d (cat [⟨#[125]⟩])).length ≤ 140737488355328) := by show _ ≤ _; rw [HEQ.out]; exact HL.out
    go_wp2_with fail
    refine (line_new w0.heap.size b _ d [⟨#[125]⟩] w3 HP3.out hs3 (Nat.le_of_ble_eq_true rfl) (by omega) HF2.out).mono ?_
    rintro e w6 ⟨rfl, hp6, hb6, ho6⟩
    have HP6 : Hid (PgT w0.heap.size b res d w6) := by show PgT _ _ _ _ _; rw [← HEQ.out]; exact hp6
    clear hp6 y12
    go_wp2_with fail
    go_end0
    exact ⟨rfl, HP6.out, HBX.out.trans (HB3.out.trans (((Below.refl _ w3).alloc hs3 _).trans hb6)), HOX.out.trans (HO3.out.trans (((Lib.OthersKept.refl _ _ w3).alloc _).trans ho6))⟩

set_option maxRecDepth 100000 in
set_option maxHeartbeats 8000000 in
theorem stmt5 (w0 : World) (s : St) (hk : s.kind = 5) (hin : s.In w0) (ht : Tabs w0) (hnt : NumT w0) (hoa : OkE s.a) (hza : s.a.sz ≤ 1000000) (D : Nat) (hD : D ≤ 89) (hs : ∀ x ∈ s.body, StmtD w0 (D + 1) x) (hs2 : ∀ x ∈ s.els, StmtD w0 (D + 1) x) : StmtD w0 D s := by
  intro b l d w hB hp hd hlen
  have HT : Hid (txCh s d = txS s d) := by
    show _ = _; cases s; simp only [St.kind] at hk; subst hk; simp [txCh, txS, cat, St.a, St.els, St.body]
  rw [← HT.out] at hlen ⊢
  obtain ⟨W0, hW0⟩ : ∃ W0, w.alloc (.cells #[.int .i64 5, .string s.name, .int .i64 s.n, .int .i64 s.a.kind, .int .i64 s.a.n, .string s.a.name, .slice s.a.a s.a.args.length s.a.cap, .int .i64 s.b.kind, .int .i64 s.b.n, .string s.b.name, .slice s.b.a s.b.args.length s.b.cap, .slice s.ba s.body.length s.bc, .slice s.ea s.els.length s.ec, .slice s.ca s.cases.length s.cc] 53) = W0 := ⟨_, rfl⟩
  have hbx : Below w.heap.size w W0 := by rw [← hW0]; exact (Below.refl _ w).alloc (Nat.le_refl _) _
  have hsw := hB.size
  have hB0 : Below w0.heap.size w0 W0 := hB.trans (hbx.mono hsw)
  have HQ := show Hid _ from choice_any w0 D s hin ht hnt hoa hza hD hs hs2 b l d W0 hB0 (hp.stay hbx) hd hlen
  have HBX : Hid (Below w0.heap.size w W0 ∧ Oth b w W0) := ⟨hbx.mono hsw, oth_below hbx⟩
  have HW0 := show Hid _ from hW0
  clear hW0 hin ht hnt hoa hza hp hlen hbx hB0 hB hs hs2 HT
  unfold St.val at HQ ⊢
  rw [hk] at HQ ⊢
  generalize txCh s d = tx at HQ ⊢
  go_enter Tryd.func64, Tryd.ntmps64
  go_wp2_with fail
  rw [HW0.out]
  refine Calls.mono (show Calls Tryd.prog _ _ _ _ from HQ.out) ?_
  rintro e w2 ⟨rfl, hp2, hb2, ho2⟩
  have HP2 : Hid (PgT w0.heap.size b (l ++ tx) d w2) := hp2
  clear hp2 HQ
  go_wp2_with fail
  go_end0
  exact ⟨rfl, HP2.out, HBX.out.1.trans hb2, HBX.out.2.trans ho2⟩
end Go.Proofs.YtbpemackmadhgabDoor
