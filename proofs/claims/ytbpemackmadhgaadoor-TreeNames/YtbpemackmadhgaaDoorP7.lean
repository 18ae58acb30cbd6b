/- expr: the text of an expression that has a form. -/
import Derived.Test.YtbpemackmadhgaaDoorP6
namespace Go.Proofs.YtbpemackmadhgaaDoor
open Go.RowKit Go.Sort

abbrev WithinOk (k : Nat) : Prop := ∀ (x : Ex) (least : Int) (w : World), x.sz ≤ k → x.In w → Tabs w → NumT w → OkE x → x.sz ≤ 1000000 → Calls Tryd.prog 88 #[x.val, .int .i64 least] w fun e w' => e = .returned (sB (wiB (rkE x.kind) least (txE x))) ∧ Below w.heap.size w w'
theorem seen_list {W0 : World} {b o sz i : Nat} {cs : List Value} (h : ∀ j v, cs[j]? = some v → W0.cell? ⟨b, o + (i * sz + j), none⟩ = some v) (j : Nat) (v : Value) (hj : cs[j]? = some v) : ∀ w', Below W0.heap.size W0 w' → w'.cell? ⟨b, o + (i * sz + j), none⟩ = some v := seen (h j v hj)
/-- The world behind both boxes. -/
def exW (kn n : Int) (s : ByteArray) (sl : Value) (fm : Form) (w : World) : World := (w.alloc (.cells #[.int .i64 kn, .int .i64 n, .string s, sl] 39)).alloc (.cells #[.int .i64 fm.fields, .int .i64 fm.args, .int .i64 fm.rank, .string fm.sign] 131)
theorem exW_facts (kn n : Int) (s : ByteArray) (sl : Value) (fm : Form) (w : World) : Below w.heap.size w (exW kn n s sl fm w) ∧ (exW kn n s sl fm w).cell? ⟨w.heap.size, 0, none⟩ = some (.int .i64 kn) ∧ (exW kn n s sl fm w).cell? ⟨w.heap.size, 1, none⟩ = some (.int .i64 n) ∧ (exW kn n s sl fm w).cell? ⟨w.heap.size, 2, none⟩ = some (.string s) ∧ (exW kn n s sl fm w).cell? ⟨w.heap.size, 3, none⟩ = some sl ∧ (exW kn n s sl fm w).cell? ⟨w.heap.size + 1, 2, none⟩ = some (.int .i64 fm.rank) ∧ (exW kn n s sl fm w).cell? ⟨w.heap.size + 1, 3, none⟩ = some (.string fm.sign) := by
  unfold exW
  have h1 : ∀ j, ((w.alloc (.cells #[.int .i64 kn, .int .i64 n, .string s, sl] 39)).alloc (.cells #[.int .i64 fm.fields, .int .i64 fm.args, .int .i64 fm.rank, .string fm.sign] 131)).cell? ⟨w.heap.size, j, none⟩ = (#[.int .i64 kn, .int .i64 n, .string s, sl] : Array Value)[j]? := fun j => by
    rw [World.cell?_alloc_past _ _ _ (by simp), World.cell?_alloc_at _ _ _ _ rfl]
  have h2 : ∀ j, ((w.alloc (.cells #[.int .i64 kn, .int .i64 n, .string s, sl] 39)).alloc (.cells #[.int .i64 fm.fields, .int .i64 fm.args, .int .i64 fm.rank, .string fm.sign] 131)).cell? ⟨w.heap.size + 1, j, none⟩ = (#[.int .i64 fm.fields, .int .i64 fm.args, .int .i64 fm.rank, .string fm.sign] : Array Value)[j]? := fun j => by
    rw [World.cell?_alloc_at _ _ _ _ (by simp)]
  exact ⟨((Below.refl _ w).alloc (Nat.le_refl _) _).alloc (by simp) _, h1 0, h1 1, h1 2, h1 3, h2 2, h2 3⟩

theorem row_0 {W : World} {a : Option Addr} {y : Ex} {r : List Ex} (h : RowIn W a 4 ((y :: r).map Ex.cells)) : ∃ b o, a = some ⟨b, o, none⟩ ∧ W.cell? ⟨b, o, none⟩ = some (.int .i64 y.kind) ∧ W.cell? ⟨b, o + 1, none⟩ = some (.int .i64 y.n) ∧ W.cell? ⟨b, o + 2, none⟩ = some (.string y.name) ∧ W.cell? ⟨b, o + 3, none⟩ = some (.slice y.a y.args.length y.cap) := by
  obtain ⟨b, o, e, hc⟩ := h 0 y.cells rfl
  exact ⟨b, o, e, hc 0 _ rfl, hc 1 _ rfl, hc 2 _ rfl, hc 3 _ rfl⟩
theorem row_1 {W : World} {a : Option Addr} {x y : Ex} {r : List Ex} (h : RowIn W a 4 ((x :: y :: r).map Ex.cells)) : ∃ b o, a = some ⟨b, o, none⟩ ∧ W.cell? ⟨b, o + 4, none⟩ = some (.int .i64 y.kind) ∧ W.cell? ⟨b, o + 5, none⟩ = some (.int .i64 y.n) ∧ W.cell? ⟨b, o + 6, none⟩ = some (.string y.name) ∧ W.cell? ⟨b, o + 7, none⟩ = some (.slice y.a y.args.length y.cap) := by
  obtain ⟨b, o, e, hc⟩ := h 1 y.cells rfl
  exact ⟨b, o, e, hc 0 _ rfl, hc 1 _ rfl, hc 2 _ rfl, hc 3 _ rfl⟩
theorem row_2 {W : World} {a : Option Addr} {x z y : Ex} {r : List Ex} (h : RowIn W a 4 ((x :: z :: y :: r).map Ex.cells)) : ∃ b o, a = some ⟨b, o, none⟩ ∧ W.cell? ⟨b, o + 8, none⟩ = some (.int .i64 y.kind) ∧ W.cell? ⟨b, o + 9, none⟩ = some (.int .i64 y.n) ∧ W.cell? ⟨b, o + 10, none⟩ = some (.string y.name) ∧ W.cell? ⟨b, o + 11, none⟩ = some (.slice y.a y.args.length y.cap) := by
  obtain ⟨b, o, e, hc⟩ := h 2 y.cells rfl
  exact ⟨b, o, e, hc 0 _ rfl, hc 1 _ rfl, hc 2 _ rfl, hc 3 _ rfl⟩
theorem rank_bd (k : Nat) (h : k < 21) : 0 ≤ (formE k).rank ∧ (formE k).rank ≤ 9 := by
  have : ∀ k, k < 21 → 0 ≤ (formE k).rank ∧ (formE k).rank ≤ 9 := by decide
  exact this k h
theorem tx3 (n : Int) (s : ByteArray) (a : Option Addr) (c : Nat) (y : Ex) : cat [s, ⟨#[91]⟩, ⟨(txE y).toArray⟩, ⟨#[93]⟩] = txE (Ex.mk 3 n s a c [y]) := by
  rw [txE_eq (Ex.mk 3 n s a c [y])]; show _ = txOf 3 n s [y.kind] [txE y]
  rw [txOf, if_neg (by decide), if_neg (by decide), if_pos rfl]; simp [cat]
theorem tx4 (n : Int) (s : ByteArray) (a : Option Addr) (c : Nat) (l : List Ex) : cat [s, ⟨#[40]⟩, ⟨(comB (l.map txE)).toArray⟩, ⟨#[41]⟩] = txE (Ex.mk 4 n s a c l) := by
  rw [txE_eq (Ex.mk 4 n s a c l)]; show _ = txOf 4 n s (l.map Ex.kind) (l.map txE)
  rw [txOf, if_neg (by decide), if_neg (by decide), if_neg (by decide), if_pos rfl]; simp [cat]
theorem tx56 (k n : Int) (hk : k = 5 ∨ k = 6) (s : ByteArray) (a : Option Addr) (c : Nat) (y : Ex) : cat [⟨(sgE k).toArray⟩, ⟨(wiB (rkE y.kind) (rkE k) (txE y)).toArray⟩] = txE (Ex.mk k n s a c [y]) := by
  rw [txE_eq (Ex.mk k n s a c [y])]; show _ = txOf k n s [y.kind] [txE y]
  rw [txOf, if_neg (by omega), if_neg (by omega), if_neg (by omega), if_neg (by omega), if_pos hk]; simp [cat]
theorem tx20 (n : Int) (s : ByteArray) (a : Option Addr) (c : Nat) (x y z : Ex) : cat [⟨(wiB (rkE x.kind) (rkE 20 + 1) (txE x)).toArray⟩, ⟨#[32, 63, 32]⟩, ⟨(txE y).toArray⟩, ⟨#[32, 58, 32]⟩, ⟨(txE z).toArray⟩] = txE (Ex.mk 20 n s a c [x, y, z]) := by
  rw [txE_eq (Ex.mk 20 n s a c [x, y, z])]; show _ = txOf 20 n s [x.kind, y.kind, z.kind] [txE x, txE y, txE z]
  rw [txOf, if_neg (by decide), if_neg (by decide), if_neg (by decide), if_neg (by decide), if_neg (by decide), if_pos rfl]; simp [cat]
theorem tx2 (k n : Int) (hk : 7 ≤ k) (hk' : k ≤ 19) (s : ByteArray) (a : Option Addr) (c : Nat) (x y : Ex) : cat [⟨(wiB (rkE x.kind) (rkE k) (txE x)).toArray⟩, ⟨#[32]⟩, ⟨(sgE k).toArray⟩, ⟨#[32]⟩, ⟨(wiB (rkE y.kind) (rkE k + 1) (txE y)).toArray⟩] = txE (Ex.mk k n s a c [x, y]) := by
  rw [txE_eq (Ex.mk k n s a c [x, y])]; show _ = txOf k n s [x.kind, y.kind] [txE x, txE y]
  rw [txOf, if_neg (by omega), if_neg (by omega), if_neg (by omega), if_neg (by omega), if_neg (by omega), if_neg (by omega)]; simp [cat]

set_option maxRecDepth 100000 in
set_option maxHeartbeats 8000000 in
theorem expr3 (k : Nat) (h1 : ExprOk k) (n : Int) (s : ByteArray) (a : Option Addr) (c : Nat) (y : Ex) (w : World) (hk : (Ex.mk 3 n s a c [y]).sz ≤ k + 1) (hin : (Ex.mk 3 n s a c [y]).In w) (ht : Tabs w) (hnt : NumT w) (hok : OkE (Ex.mk 3 n s a c [y])) (hsz : (Ex.mk 3 n s a c [y]).sz ≤ 1000000) :
    Calls Tryd.prog 68 #[(Ex.mk 3 n s a c [y]).val] w fun e w' => e = .returned (sB (txE (Ex.mk 3 n s a c [y]))) ∧ Below w.heap.size w w' := by
  have hlen := txE_len (w := w) _ _ (Nat.le_refl _) hin hok
  have hz := (Ex.mk 3 n s a c [y]).sz_args
  simp only [Ex.args, szL] at hz
  have hin' := Ex.in_iff.1 hin
  simp only [Ex.kind, Ex.n, Ex.name, Ex.a, Ex.cap, Ex.args] at hin'
  obtain ⟨_, _, _, _, _, _, hrow, hsub⟩ := hin'
  have hoks := hok.parts.2
  simp only [Ex.args] at hoks
  have HC : Hid (cat [s, ⟨#[91]⟩, ⟨(txE y).toArray⟩, ⟨#[93]⟩] = txE (Ex.mk 3 n s a c [y])) := tx3 n s a c y
  have HLEN : Hid ((cat [s, ⟨#[91]⟩, ⟨(txE y).toArray⟩, ⟨#[93]⟩]).length ≤ 140737488355328) := by show _ ≤ _; rw [HC.out]; omega
  have HY : Hid (∀ w', Below w.heap.size w w' → Calls Tryd.prog 68 #[.agg #[.int .i64 y.kind, .int .i64 y.n, .string y.name, .slice y.a y.args.length y.cap]] w' fun e w'' => e = .returned (sB (txE y)) ∧ Below w'.heap.size w' w'') := fun w' hb => h1 y w' (by omega) ((hsub y (by simp)).stay hb) (ht.stay hb) (hnt.stay hb) (hoks y (by simp)) (by omega)
  obtain ⟨t0, t1, t2, t3⟩ := ht.2 3 (by omega)
  have h1w : 1 < w.heap.size := lt_of_cell t0
  obtain ⟨b, o, rfl, c0, c1, c2, c3⟩ := row_0 hrow
  clear h1 hin ht hnt hok hrow hsub hoks
  unfold Ex.val
  simp only [Ex.kind, Ex.n, Ex.name, Ex.a, Ex.cap, Ex.args]
  go_enter Tryd.func68, Tryd.ntmps68
  go_wp2_with fail
  obtain ⟨hb0, x0, x1, x2, x3, f2, f3⟩ := exW_facts 3 n s (.slice (some ⟨b, o, none⟩) 1 c) (formE 3) w
  obtain ⟨W0, hW0⟩ : ∃ W0, exW 3 n s (.slice (some ⟨b, o, none⟩) 1 c) (formE 3) w = W0 := ⟨_, rfl⟩
  rw [hW0] at hb0 x0 x1 x2 x3 f2 f3
  unfold exW at hW0
  rw [hW0]
  have HB0 : Hid (Below w.heap.size w W0) := hb0
  have c0 := seen ((hb0.cell (lt_of_cell c0)).trans c0)
  have c1 := seen ((hb0.cell (lt_of_cell c1)).trans c1)
  have c2 := seen ((hb0.cell (lt_of_cell c2)).trans c2)
  have c3 := seen ((hb0.cell (lt_of_cell c3)).trans c3)
  have x2 := seen x2
  have x3 := seen x3
  have f2 := seen f2
  have f3 := seen f3
  clear hW0 hb0 x0 x1 t0 t1 t2 t3 h1w hk hsz hlen hz
  go_region_held3 (fun w' => Below W0.heap.size W0 w') (first | exact Below.drew (Below.refl _ _) | exact Below.on (by assumption) (by assumption) | exact Below.one (by assumption) _)
    (first
      | (go_at_call 68; (first | (refine (HY.out _ (Below.on HB0.out (by assumption))).mono ?_)); rintro e w' ⟨rfl, hb⟩)
      | (go_at_call 56; refine (join_new [s, ⟨#[91]⟩, ⟨(txE y).toArray⟩, ⟨#[93]⟩] _ (Nat.le_of_ble_eq_true rfl) HLEN.out).mono ?_; rintro e w' ⟨rfl, hb⟩))
  all_goals go_wp2_with fail
  all_goals go_ret
  all_goals exact ⟨ret_str HC.out, Below.on HB0.out (by assumption)⟩

set_option maxRecDepth 100000 in
set_option maxHeartbeats 8000000 in
theorem expr5 (k : Nat) (h2 : WithinOk k) (n : Int) (s : ByteArray) (a : Option Addr) (c : Nat) (y : Ex) (w : World) (hk : (Ex.mk 5 n s a c [y]).sz ≤ k + 1) (hin : (Ex.mk 5 n s a c [y]).In w) (ht : Tabs w) (hnt : NumT w) (hok : OkE (Ex.mk 5 n s a c [y])) (hsz : (Ex.mk 5 n s a c [y]).sz ≤ 1000000) :
    Calls Tryd.prog 68 #[(Ex.mk 5 n s a c [y]).val] w fun e w' => e = .returned (sB (txE (Ex.mk 5 n s a c [y]))) ∧ Below w.heap.size w w' := by
  have hlen := txE_len (w := w) _ _ (Nat.le_refl _) hin hok
  have hz := (Ex.mk 5 n s a c [y]).sz_args
  simp only [Ex.args, szL] at hz
  have hin' := Ex.in_iff.1 hin
  simp only [Ex.kind, Ex.n, Ex.name, Ex.a, Ex.cap, Ex.args] at hin'
  obtain ⟨_, _, _, _, _, _, hrow, hsub⟩ := hin'
  have hoks := hok.parts.2
  simp only [Ex.args] at hoks
  have HC : Hid (cat [(formE 5).sign, ⟨(wiB (rkE y.kind) (formE 5).rank (txE y)).toArray⟩] = txE (Ex.mk 5 n s a c [y])) := tx56 5 n (.inl rfl) s a c y
  have HLEN : Hid ((cat [(formE 5).sign, ⟨(wiB (rkE y.kind) (formE 5).rank (txE y)).toArray⟩]).length ≤ 140737488355328) := by show _ ≤ _; rw [HC.out]; omega
  have HY : Hid (∀ w', Below w.heap.size w w' → Calls Tryd.prog 88 #[.agg #[.int .i64 y.kind, .int .i64 y.n, .string y.name, .slice y.a y.args.length y.cap], .int .i64 (formE 5).rank] w' fun e w'' => e = .returned (sB (wiB (rkE y.kind) (formE 5).rank (txE y))) ∧ Below w'.heap.size w' w'') := fun w' hb => h2 y ((formE 5).rank) w' (by omega) ((hsub y (by simp)).stay hb) (ht.stay hb) (hnt.stay hb) (hoks y (by simp)) (by omega)
  obtain ⟨t0, t1, t2, t3⟩ := ht.2 5 (by omega)
  have h1w : 1 < w.heap.size := lt_of_cell t0
  obtain ⟨b, o, rfl, c0, c1, c2, c3⟩ := row_0 hrow
  clear h2 hin ht hnt hok hrow hsub hoks
  unfold Ex.val
  simp only [Ex.kind, Ex.n, Ex.name, Ex.a, Ex.cap, Ex.args]
  go_enter Tryd.func68, Tryd.ntmps68
  go_wp2_with fail
  obtain ⟨hb0, x0, x1, x2, x3, f2, f3⟩ := exW_facts 5 n s (.slice (some ⟨b, o, none⟩) 1 c) (formE 5) w
  obtain ⟨W0, hW0⟩ : ∃ W0, exW 5 n s (.slice (some ⟨b, o, none⟩) 1 c) (formE 5) w = W0 := ⟨_, rfl⟩
  rw [hW0] at hb0 x0 x1 x2 x3 f2 f3
  unfold exW at hW0
  rw [hW0]
  have HB0 : Hid (Below w.heap.size w W0) := hb0
  have c0 := seen ((hb0.cell (lt_of_cell c0)).trans c0)
  have c1 := seen ((hb0.cell (lt_of_cell c1)).trans c1)
  have c2 := seen ((hb0.cell (lt_of_cell c2)).trans c2)
  have c3 := seen ((hb0.cell (lt_of_cell c3)).trans c3)
  have x2 := seen x2
  have x3 := seen x3
  have f2 := seen f2
  have f3 := seen f3
  clear hW0 hb0 x0 x1 t0 t1 t2 t3 h1w hk hsz hlen hz
  go_region_held3 (fun w' => Below W0.heap.size W0 w') (first | exact Below.drew (Below.refl _ _) | exact Below.on (by assumption) (by assumption) | exact Below.one (by assumption) _)
    (first
      | (go_at_call 88; (first | (refine (HY.out _ (Below.on HB0.out (by assumption))).mono ?_)); rintro e w' ⟨rfl, hb⟩)
      | (go_at_call 56; refine (join_new [(formE 5).sign, ⟨(wiB (rkE y.kind) (formE 5).rank (txE y)).toArray⟩] _ (Nat.le_of_ble_eq_true rfl) HLEN.out).mono ?_; rintro e w' ⟨rfl, hb⟩))
  all_goals go_wp2_with fail
  all_goals go_ret
  all_goals exact ⟨ret_str HC.out, Below.on HB0.out (by assumption)⟩

set_option maxRecDepth 100000 in
set_option maxHeartbeats 8000000 in
theorem expr6 (k : Nat) (h2 : WithinOk k) (n : Int) (s : ByteArray) (a : Option Addr) (c : Nat) (y : Ex) (w : World) (hk : (Ex.mk 6 n s a c [y]).sz ≤ k + 1) (hin : (Ex.mk 6 n s a c [y]).In w) (ht : Tabs w) (hnt : NumT w) (hok : OkE (Ex.mk 6 n s a c [y])) (hsz : (Ex.mk 6 n s a c [y]).sz ≤ 1000000) :
    Calls Tryd.prog 68 #[(Ex.mk 6 n s a c [y]).val] w fun e w' => e = .returned (sB (txE (Ex.mk 6 n s a c [y]))) ∧ Below w.heap.size w w' := by
  have hlen := txE_len (w := w) _ _ (Nat.le_refl _) hin hok
  have hz := (Ex.mk 6 n s a c [y]).sz_args
  simp only [Ex.args, szL] at hz
  have hin' := Ex.in_iff.1 hin
  simp only [Ex.kind, Ex.n, Ex.name, Ex.a, Ex.cap, Ex.args] at hin'
  obtain ⟨_, _, _, _, _, _, hrow, hsub⟩ := hin'
  have hoks := hok.parts.2
  simp only [Ex.args] at hoks
  have HC : Hid (cat [(formE 6).sign, ⟨(wiB (rkE y.kind) (formE 6).rank (txE y)).toArray⟩] = txE (Ex.mk 6 n s a c [y])) := tx56 6 n (.inr rfl) s a c y
  have HLEN : Hid ((cat [(formE 6).sign, ⟨(wiB (rkE y.kind) (formE 6).rank (txE y)).toArray⟩]).length ≤ 140737488355328) := by show _ ≤ _; rw [HC.out]; omega
  have HY : Hid (∀ w', Below w.heap.size w w' → Calls Tryd.prog 88 #[.agg #[.int .i64 y.kind, .int .i64 y.n, .string y.name, .slice y.a y.args.length y.cap], .int .i64 (formE 6).rank] w' fun e w'' => e = .returned (sB (wiB (rkE y.kind) (formE 6).rank (txE y))) ∧ Below w'.heap.size w' w'') := fun w' hb => h2 y ((formE 6).rank) w' (by omega) ((hsub y (by simp)).stay hb) (ht.stay hb) (hnt.stay hb) (hoks y (by simp)) (by omega)
  obtain ⟨t0, t1, t2, t3⟩ := ht.2 6 (by omega)
  have h1w : 1 < w.heap.size := lt_of_cell t0
  obtain ⟨b, o, rfl, c0, c1, c2, c3⟩ := row_0 hrow
  clear h2 hin ht hnt hok hrow hsub hoks
  unfold Ex.val
  simp only [Ex.kind, Ex.n, Ex.name, Ex.a, Ex.cap, Ex.args]
  go_enter Tryd.func68, Tryd.ntmps68
  go_wp2_with fail
  obtain ⟨hb0, x0, x1, x2, x3, f2, f3⟩ := exW_facts 6 n s (.slice (some ⟨b, o, none⟩) 1 c) (formE 6) w
  obtain ⟨W0, hW0⟩ : ∃ W0, exW 6 n s (.slice (some ⟨b, o, none⟩) 1 c) (formE 6) w = W0 := ⟨_, rfl⟩
  rw [hW0] at hb0 x0 x1 x2 x3 f2 f3
  unfold exW at hW0
  rw [hW0]
  have HB0 : Hid (Below w.heap.size w W0) := hb0
  have c0 := seen ((hb0.cell (lt_of_cell c0)).trans c0)
  have c1 := seen ((hb0.cell (lt_of_cell c1)).trans c1)
  have c2 := seen ((hb0.cell (lt_of_cell c2)).trans c2)
  have c3 := seen ((hb0.cell (lt_of_cell c3)).trans c3)
  have x2 := seen x2
  have x3 := seen x3
  have f2 := seen f2
  have f3 := seen f3
  clear hW0 hb0 x0 x1 t0 t1 t2 t3 h1w hk hsz hlen hz
  go_region_held3 (fun w' => Below W0.heap.size W0 w') (first | exact Below.drew (Below.refl _ _) | exact Below.on (by assumption) (by assumption) | exact Below.one (by assumption) _)
    (first
      | (go_at_call 88; (first | (refine (HY.out _ (Below.on HB0.out (by assumption))).mono ?_)); rintro e w' ⟨rfl, hb⟩)
      | (go_at_call 56; refine (join_new [(formE 6).sign, ⟨(wiB (rkE y.kind) (formE 6).rank (txE y)).toArray⟩] _ (Nat.le_of_ble_eq_true rfl) HLEN.out).mono ?_; rintro e w' ⟨rfl, hb⟩))
  all_goals go_wp2_with fail
  all_goals go_ret
  all_goals exact ⟨ret_str HC.out, Below.on HB0.out (by assumption)⟩
end Go.Proofs.YtbpemackmadhgaaDoor
