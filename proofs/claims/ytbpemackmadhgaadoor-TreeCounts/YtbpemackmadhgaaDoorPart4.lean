/- expr: the text of an expression that has a form. -/
import Derived.Test.YtbpemackmadhgaaDoorPart3
import Derived.Test.YtbpemackmadhgaaDoorPart2
import Derived.Test.YtbpemackmadhgaaDoorPart1
import Derived.Laws.StructEq
namespace Go.Proofs.YtbpemackmadhgaaDoor
open Go.RowKit Go.Sort

abbrev WithinOk (k : Nat) : Prop := ∀ (x : Ex) (least : Int) (w : World), x.sz ≤ k → x.In w → Tabs w → NumT w → OkE x → x.sz ≤ 1000000 → Calls Tryd.prog 88 #[x.val, .int .i64 least] w fun e w' => e = .returned (sB (wiB (rkE x.kind) least (txE x))) ∧ Below w.heap.size w w'
theorem seen_list {W0 : World} {b o sz i : Nat} {cs : List Value} (h : ∀ j v, cs[j]? = some v → W0.cell? ⟨b, o + (i * sz + j), none⟩ = some v) (j : Nat) (v : Value) (hj : cs[j]? = some v) : ∀ w', Below W0.heap.size W0 w' → w'.cell? ⟨b, o + (i * sz + j), none⟩ = some v := seen (h j v hj)
/-- The world behind both boxes. -/
def exW (kn n : Int) (s : ByteArray) (sl : Value) (fm : Form) (w : World) : World := (w.alloc (.cells #[.int .i64 kn, .int .i64 n, .string s, sl] 39)).alloc (.cells #[.int .i64 fm.fields, .int .i64 fm.args, .int .i64 fm.rank, .string fm.sign] 131)
theorem exW_facts (kn n : Int) (s : ByteArray) (sl : Value) (fm : Form) (w : World) : Below w.heap.size w (exW kn n s sl fm w) ∧ (exW kn n s sl fm w).cell? ⟨w.heap.size, 0, none⟩ = some (.int .i64 kn) ∧ (exW kn n s sl fm w).cell? ⟨w.heap.size, 1, none⟩ = some (.int .i64 n) ∧ (exW kn n s sl fm w).cell? ⟨w.heap.size, 2, none⟩ = some (.string s) ∧ (exW kn n s sl fm w).cell? ⟨w.heap.size, 3, none⟩ = some sl ∧ (exW kn n s sl fm w).cell? ⟨w.heap.size + 1, 2, none⟩ = some (.int .i64 fm.rank) ∧ (exW kn n s sl fm w).cell? ⟨w.heap.size + 1, 3, none⟩ = some (.string fm.sign) := by
  unfold exW
  have h1 : ∀ j, ((w.alloc (.cells #[.int .i64 kn, .int .i64 n, .string s, sl] 39)).alloc (.cells #[.int .i64 fm.fields, .int .i64 fm.args, .int .i64 fm.rank, .string fm.sign] 131)).cell? ⟨w.heap.size, j, none⟩ = (#[.int .i64 kn, .int .i64 n, .string s, sl] : Array Value)[j]? := fun j => by
    rw [World.cell?_alloc_past _ _ _ (by simp), World.cell?_alloc_at _ _ _ _ rfl]
  have h2 : ∀ j, ((w.alloc (.cells #[.int .i64 kn, .int .i64 n, .string s, sl] 39)).alloc (.cells #[.int .i64 fm.fields, .int .i64 fm.args, .int .i64 fm.rank, .string fm.sign] 131)).cell? ⟨w.heap.size + 1, j, none⟩ = (#[.int .i64 fm.fields, .int .i64 fm.args, .int .i64 fm.rank, .string fm.sign] : Array Value)[j]? := fun j => by
    rw [World.cell?_alloc_at _ _ _ _ (by simp)]
  exact ⟨((Below.refl _ w).alloc (Nat.le_refl _) _).alloc (by simp) _, h1 0, h1 1, h1 2, h1 3, h2 2, h2 3⟩

theorem row_0 {W : World} {a : Option Addr} {y : Ex} {r : List Ex} (h : RowIn W a 4 ((y :: r).map Ex.cells)) : ∃ b o, a = some ⟨b, o, none⟩ ∧ W.cell? ⟨b, o, none⟩ = some (.int .i64 y.kind) ∧ W.cell? ⟨b, o + 1, none⟩ = some (.int .i64 y.n) ∧ W.cell? ⟨b, o + 2, none⟩ = some (.string y.name) ∧ W.cell? ⟨b, o + 3, none⟩ = some (.slice y.a y.args.length y.cap) := by
  obtain ⟨b, o, e, hc⟩ := h 0 y.cells rfl
  exact ⟨b, o, e, hc 0 _ rfl, hc 1 _ rfl, hc 2 _ rfl, hc 3 _ rfl⟩
theorem row_1 {W : World} {a : Option Addr} {x y : Ex} {r : List Ex} (h : RowIn W a 4 ((x :: y :: r).map Ex.cells)) : ∃ b o, a = some ⟨b, o, none⟩ ∧ W.cell? ⟨b, o + 4, none⟩ = some (.int .i64 y.kind) ∧ W.cell? ⟨b, o + 5, none⟩ = some (.int .i64 y.n) ∧ W.cell? ⟨b, o + 6, none⟩ = some (.string y.name) ∧ W.cell? ⟨b, o + 7, none⟩ = some (.slice y.a y.args.length y.cap) := by
  obtain ⟨b, o, e, hc⟩ := h 1 y.cells rfl
  exact ⟨b, o, e, hc 0 _ rfl, hc 1 _ rfl, hc 2 _ rfl, hc 3 _ rfl⟩
theorem row_2 {W : World} {a : Option Addr} {x z y : Ex} {r : List Ex} (h : RowIn W a 4 ((x :: z :: y :: r).map Ex.cells)) : ∃ b o, a = some ⟨b, o, none⟩ ∧ W.cell? ⟨b, o + 8, none⟩ = some (.int .i64 y.kind) ∧ W.cell? ⟨b, o + 9, none⟩ = some (.int .i64 y.n) ∧ W.cell? ⟨b, o + 10, none⟩ = some (.string y.name) ∧ W.cell? ⟨b, o + 11, none⟩ = some (.slice y.a y.args.length y.cap) := by
  obtain ⟨b, o, e, hc⟩ := h 2 y.cells rfl
  exact ⟨b, o, e, hc 0 _ rfl, hc 1 _ rfl, hc 2 _ rfl, hc 3 _ rfl⟩
theorem rank_bd (k : Nat) (h : k < 21) : 0 ≤ (formE k).rank ∧ (formE k).rank ≤ 9 := by
  have : ∀ k, k < 21 → 0 ≤ (formE k).rank ∧ (formE k).rank ≤ 9 := by decide
  exact this k h
theorem tx3 (n : Int) (s : ByteArray) (a : Option Addr) (c : Nat) (y : Ex) : cat [s, ⟨#[91]⟩, ⟨(txE y).toArray⟩, ⟨#[93]⟩] = txE (Ex.mk 3 n s a c [y]) := by
  rw [txE_eq (Ex.mk 3 n s a c [y])]; show _ = txOf 3 n s [y.kind] [txE y]
  rw [txOf, if_neg (by decide), if_neg (by decide), if_pos rfl]; simp [cat]
theorem tx4 (n : Int) (s : ByteArray) (a : Option Addr) (c : Nat) (l : List Ex) : cat [s, ⟨#[40]⟩, ⟨(comB (l.map txE)).toArray⟩, ⟨#[41]⟩] = txE (Ex.mk 4 n s a c l) := by
  rw [txE_eq (Ex.mk 4 n s a c l)]; show _ = txOf 4 n s (l.map Ex.kind) (l.map txE)
  rw [txOf, if_neg (by decide), if_neg (by decide), if_neg (by decide), if_pos rfl]; simp [cat]
theorem tx56 (k n : Int) (hk : k = 5 ∨ k = 6) (s : ByteArray) (a : Option Addr) (c : Nat) (y : Ex) : cat [⟨(sgE k).toArray⟩, ⟨(wiB (rkE y.kind) (rkE k) (txE y)).toArray⟩] = txE (Ex.mk k n s a c [y]) := by
  rw [txE_eq (Ex.mk k n s a c [y])]; show _ = txOf k n s [y.kind] [txE y]
  rw [txOf, if_neg (by omega), if_neg (by omega), if_neg (by omega), if_neg (by omega), if_pos hk]; simp [cat]
theorem tx20 (n : Int) (s : ByteArray) (a : Option Addr) (c : Nat) (x y z : Ex) : cat [⟨(wiB (rkE x.kind) (rkE 20 + 1) (txE x)).toArray⟩, ⟨#[32, 63, 32]⟩, ⟨(txE y).toArray⟩, ⟨#[32, 58, 32]⟩, ⟨(txE z).toArray⟩] = txE (Ex.mk 20 n s a c [x, y, z]) := by
  rw [txE_eq (Ex.mk 20 n s a c [x, y, z])]; show _ = txOf 20 n s [x.kind, y.kind, z.kind] [txE x, txE y, txE z]
  rw [txOf, if_neg (by decide), if_neg (by decide), if_neg (by decide), if_neg (by decide), if_neg (by decide), if_pos rfl]; simp [cat]
theorem tx2 (k n : Int) (hk : 7 ≤ k) (hk' : k ≤ 19) (s : ByteArray) (a : Option Addr) (c : Nat) (x y : Ex) : cat [⟨(wiB (rkE x.kind) (rkE k) (txE x)).toArray⟩, ⟨#[32]⟩, ⟨(sgE k).toArray⟩, ⟨#[32]⟩, ⟨(wiB (rkE y.kind) (rkE k + 1) (txE y)).toArray⟩] = txE (Ex.mk k n s a c [x, y]) := by
  rw [txE_eq (Ex.mk k n s a c [x, y])]; show _ = txOf k n s [x.kind, y.kind] [txE x, txE y]
  rw [txOf, if_neg (by omega), if_neg (by omega), if_neg (by omega), if_neg (by omega), if_neg (by omega), if_neg (by omega)]; simp [cat]

set_option maxRecDepth 100000 in
set_option maxHeartbeats 8000000 in
theorem expr3 (k : Nat) (h1 : ExprOk k) (n : Int) (s : ByteArray) (a : Option Addr) (c : Nat) (y : Ex) (w : World) (hk : (Ex.mk 3 n s a c [y]).sz ≤ k + 1) (hin : (Ex.mk 3 n s a c [y]).In w) (ht : Tabs w) (hnt : NumT w) (hok : OkE (Ex.mk 3 n s a c [y])) (hsz : (Ex.mk 3 n s a c [y]).sz ≤ 1000000) :
    Calls Tryd.prog 68 #[(Ex.mk 3 n s a c [y]).val] w fun e w' => e = .returned (sB (txE (Ex.mk 3 n s a c [y]))) ∧ Below w.heap.size w w' := by
  have hlen := txE_len (w := w) _ _ (Nat.le_refl _) hin hok
  have hz := (Ex.mk 3 n s a c [y]).sz_args
  simp only [Ex.args, szL] at hz
  have hin' := Ex.in_iff.1 hin
  simp only [Ex.kind, Ex.n, Ex.name, Ex.a, Ex.cap, Ex.args] at hin'
  obtain ⟨_, _, _, _, _, _, hrow, hsub⟩ := hin'
  have hoks := hok.parts.2
  simp only [Ex.args] at hoks
  have HC : Hid (cat [s, ⟨#[91]⟩, ⟨(txE y).toArray⟩, ⟨#[93]⟩] = txE (Ex.mk 3 n s a c [y])) := tx3 n s a c y
  have HLEN : Hid ((cat [s, ⟨#[91]⟩, ⟨(txE y).toArray⟩, ⟨#[93]⟩]).length ≤ 140737488355328) := by show _ ≤ _; rw [HC.out]; omega
  have HY : Hid (∀ w', Below w.heap.size w w' → Calls Tryd.prog 68 #[.agg #[.int .i64 y.kind, .int .i64 y.n, .string y.name, .slice y.a y.args.length y.cap]] w' fun e w'' => e = .returned (sB (txE y)) ∧ Below w'.heap.size w' w'') := fun w' hb => h1 y w' (by omega) ((hsub y (by simp)).stay hb) (ht.stay hb) (hnt.stay hb) (hoks y (by simp)) (by omega)
  obtain ⟨t0, t1, t2, t3⟩ := ht.2 3 (by omega)
  have h1w : 1 < w.heap.size := lt_of_cell t0
  obtain ⟨b, o, rfl, c0, c1, c2, c3⟩ := row_0 hrow
  clear h1 hin ht hnt hok hrow hsub hoks
  unfold Ex.val
  simp only [Ex.kind, Ex.n, Ex.name, Ex.a, Ex.cap, Ex.args]
  go_enter Tryd.func68, Tryd.ntmps68
  go_wp2_with fail
  obtain ⟨hb0, x0, x1, x2, x3, f2, f3⟩ := exW_facts 3 n s (.slice (some ⟨b, o, none⟩) 1 c) (formE 3) w
  obtain ⟨W0, hW0⟩ : ∃ W0, exW 3 n s (.slice (some ⟨b, o, none⟩) 1 c) (formE 3) w = W0 := ⟨_, rfl⟩
  rw [hW0] at hb0 x0 x1 x2 x3 f2 f3
  unfold exW at hW0
  rw [hW0]
  have HB0 : Hid (Below w.heap.size w W0) := hb0
  have c0 := seen ((hb0.cell (lt_of_cell c0)).trans c0)
  have c1 := seen ((hb0.cell (lt_of_cell c1)).trans c1)
  have c2 := seen ((hb0.cell (lt_of_cell c2)).trans c2)
  have c3 := seen ((hb0.cell (lt_of_cell c3)).trans c3)
  have x2 := seen x2
  have x3 := seen x3
  have f2 := seen f2
  have f3 := seen f3
  clear hW0 hb0 x0 x1 t0 t1 t2 t3 h1w hk hsz hlen hz
  go_region_held3 (fun w' => Below W0.heap.size W0 w') (first | exact Below.drew (Below.refl _ _) | exact Below.on (by assumption) (by assumption) | exact Below.one (by assumption) _)
    (first
      | (go_at_call 68; (first | (refine (HY.out _ (Below.on HB0.out (by assumption))).mono ?_)); rintro e w' ⟨rfl, hb⟩)
      | (go_at_call 56; refine (join_new [s, ⟨#[91]⟩, ⟨(txE y).toArray⟩, ⟨#[93]⟩] _ (Nat.le_of_ble_eq_true rfl) HLEN.out).mono ?_; rintro e w' ⟨rfl, hb⟩))
  all_goals go_wp2_with fail
  all_goals go_ret
  all_goals exact ⟨ret_str HC.out, Below.on HB0.out (by assumption)⟩

set_option maxRecDepth 100000 in
set_option maxHeartbeats 8000000 in
theorem expr5 (k : Nat) (h2 : WithinOk k) (n : Int) (s : ByteArray) (a : Option Addr) (c : Nat) (y : Ex) (w : World) (hk : (Ex.mk 5 n s a c [y]).sz ≤ k + 1) (hin : (Ex.mk 5 n s a c [y]).In w) (ht : Tabs w) (hnt : NumT w) (hok : OkE (Ex.mk 5 n s a c [y])) (hsz : (Ex.mk 5 n s a c [y]).sz ≤ 1000000) :
    Calls Tryd.prog 68 #[(Ex.mk 5 n s a c [y]).val] w fun e w' => e = .returned (sB (txE (Ex.mk 5 n s a c [y]))) ∧ Below w.heap.size w w' := by
  have hlen := txE_len (w := w) _ _ (Nat.le_refl _) hin hok
  have hz := (Ex.mk 5 n s a c [y]).sz_args
  simp only [Ex.args, szL] at hz
  have hin' := Ex.in_iff.1 hin
  simp only [Ex.kind, Ex.n, Ex.name, Ex.a, Ex.cap, Ex.args] at hin'
  obtain ⟨_, _, _, _, _, _, hrow, hsub⟩ := hin'
  have hoks := hok.parts.2
  simp only [Ex.args] at hoks
  have HC : Hid (cat [(formE 5).sign, ⟨(wiB (rkE y.kind) (formE 5).rank (txE y)).toArray⟩] = txE (Ex.mk 5 n s a c [y])) := tx56 5 n (.inl rfl) s a c y
  have HLEN : Hid ((cat [(formE 5).sign, ⟨(wiB (rkE y.kind) (formE 5).rank (txE y)).toArray⟩]).length ≤ 140737488355328) := by show _ ≤ _; rw [HC.out]; omega
  have HY : Hid (∀ w', Below w.heap.size w w' → Calls Tryd.prog 88 #[.agg #[.int .i64 y.kind, .int .i64 y.n, .string y.name, .slice y.a y.args.length y.cap], .int .i64 (formE 5).rank] w' fun e w'' => e = .returned (sB (wiB (rkE y.kind) (formE 5).rank (txE y))) ∧ Below w'.heap.size w' w'') := fun w' hb => h2 y ((formE 5).rank) w' (by omega) ((hsub y (by simp)).stay hb) (ht.stay hb) (hnt.stay hb) (hoks y (by simp)) (by omega)
  obtain ⟨t0, t1, t2, t3⟩ := ht.2 5 (by omega)
  have h1w : 1 < w.heap.size := lt_of_cell t0
  obtain ⟨b, o, rfl, c0, c1, c2, c3⟩ := row_0 hrow
  clear h2 hin ht hnt hok hrow hsub hoks
  unfold Ex.val
  simp only [Ex.kind, Ex.n, Ex.name, Ex.a, Ex.cap, Ex.args]
  go_enter Tryd.func68, Tryd.ntmps68
  go_wp2_with fail
  obtain ⟨hb0, x0, x1, x2, x3, f2, f3⟩ := exW_facts 5 n s (.slice (some ⟨b, o, none⟩) 1 c) (formE 5) w
  obtain ⟨W0, hW0⟩ : ∃ W0, exW 5 n s (.slice (some ⟨b, o, none⟩) 1 c) (formE 5) w = W0 := ⟨_, rfl⟩
  rw [hW0] at hb0 x0 x1 x2 x3 f2 f3
  unfold exW at hW0
  rw [hW0]
  have HB0 : Hid (Below w.heap.size w W0) := hb0
  have c0 := seen ((hb0.cell (lt_of_cell c0)).trans c0)
  have c1 := seen ((hb0.cell (lt_of_cell c1)).trans c1)
  have c2 := seen ((hb0.cell (lt_of_cell c2)).trans c2)
  have c3 := seen ((hb0.cell (lt_of_cell c3)).trans c3)
  have x2 := seen x2
  have x3 := seen x3
  have f2 := seen f2
  have f3 := seen f3
  clear hW0 hb0 x0 x1 t0 t1 t2 t3 h1w hk hsz hlen hz
  go_region_held3 (fun w' => Below W0.heap.size W0 w') (first | exact Below.drew (Below.refl _ _) | exact Below.on (by assumption) (by assumption) | exact Below.one (by assumption) _)
    (first
      | (go_at_call 88; (first | (refine (HY.out _ (Below.on HB0.out (by assumption))).mono ?_)); rintro e w' ⟨rfl, hb⟩)
      | (go_at_call 56; refine (join_new [(formE 5).sign, ⟨(wiB (rkE y.kind) (formE 5).rank (txE y)).toArray⟩] _ (Nat.le_of_ble_eq_true rfl) HLEN.out).mono ?_; rintro e w' ⟨rfl, hb⟩))
  all_goals go_wp2_with fail
  all_goals go_ret
  all_goals exact ⟨ret_str HC.out, Below.on HB0.out (by assumption)⟩

set_option maxRecDepth 100000 in
set_option maxHeartbeats 8000000 in
theorem expr6 (k : Nat) (h2 : WithinOk k) (n : Int) (s : ByteArray) (a : Option Addr) (c : Nat) (y : Ex) (w : World) (hk : (Ex.mk 6 n s a c [y]).sz ≤ k + 1) (hin : (Ex.mk 6 n s a c [y]).In w) (ht : Tabs w) (hnt : NumT w) (hok : OkE (Ex.mk 6 n s a c [y])) (hsz : (Ex.mk 6 n s a c [y]).sz ≤ 1000000) :
    Calls Tryd.prog 68 #[(Ex.mk 6 n s a c [y]).val] w fun e w' => e = .returned (sB (txE (Ex.mk 6 n s a c [y]))) ∧ Below w.heap.size w w' := by
  have hlen := txE_len (w := w) _ _ (Nat.le_refl _) hin hok
  have hz := (Ex.mk 6 n s a c [y]).sz_args
  simp only [Ex.args, szL] at hz
  have hin' := Ex.in_iff.1 hin
  simp only [Ex.kind, Ex.n, Ex.name, Ex.a, Ex.cap, Ex.args] at hin'
  obtain ⟨_, _, _, _, _, _, hrow, hsub⟩ := hin'
  have hoks := hok.parts.2
  simp only [Ex.args] at hoks
  have HC : Hid (cat [(formE 6).sign, ⟨(wiB (rkE y.kind) (formE 6).rank (txE y)).toArray⟩] = txE (Ex.mk 6 n s a c [y])) := tx56 6 n (.inr rfl) s a c y
  have HLEN : Hid ((cat [(formE 6).sign, ⟨(wiB (rkE y.kind) (formE 6).rank (txE y)).toArray⟩]).length ≤ 140737488355328) := by show _ ≤ _; rw [HC.out]; omega
  have HY : Hid (∀ w', Below w.heap.size w w' → Calls Tryd.prog 88 #[.agg #[.int .i64 y.kind, .int .i64 y.n, .string y.name, .slice y.a y.args.length y.cap], .int .i64 (formE 6).rank] w' fun e w'' => e = .returned (sB (wiB (rkE y.kind) (formE 6).rank (txE y))) ∧ Below w'.heap.size w' w'') := fun w' hb => h2 y ((formE 6).rank) w' (by omega) ((hsub y (by simp)).stay hb) (ht.stay hb) (hnt.stay hb) (hoks y (by simp)) (by omega)
  obtain ⟨t0, t1, t2, t3⟩ := ht.2 6 (by omega)
  have h1w : 1 < w.heap.size := lt_of_cell t0
  obtain ⟨b, o, rfl, c0, c1, c2, c3⟩ := row_0 hrow
  clear h2 hin ht hnt hok hrow hsub hoks
  unfold Ex.val
  simp only [Ex.kind, Ex.n, Ex.name, Ex.a, Ex.cap, Ex.args]
  go_enter Tryd.func68, Tryd.ntmps68
  go_wp2_with fail
  obtain ⟨hb0, x0, x1, x2, x3, f2, f3⟩ := exW_facts 6 n s (.slice (some ⟨b, o, none⟩) 1 c) (formE 6) w
  obtain ⟨W0, hW0⟩ : ∃ W0, exW 6 n s (.slice (some ⟨b, o, none⟩) 1 c) (formE 6) w = W0 := ⟨_, rfl⟩
  rw [hW0] at hb0 x0 x1 x2 x3 f2 f3
  unfold exW at hW0
  rw [hW0]
  have HB0 : Hid (Below w.heap.size w W0) := hb0
  have c0 := seen ((hb0.cell (lt_of_cell c0)).trans c0)
  have c1 := seen ((hb0.cell (lt_of_cell c1)).trans c1)
  have c2 := seen ((hb0.cell (lt_of_cell c2)).trans c2)
  have c3 := seen ((hb0.cell (lt_of_cell c3)).trans c3)
  have x2 := seen x2
  have x3 := seen x3
  have f2 := seen f2
  have f3 := seen f3
  clear hW0 hb0 x0 x1 t0 t1 t2 t3 h1w hk hsz hlen hz
  go_region_held3 (fun w' => Below W0.heap.size W0 w') (first | exact Below.drew (Below.refl _ _) | exact Below.on (by assumption) (by assumption) | exact Below.one (by assumption) _)
    (first
      | (go_at_call 88; (first | (refine (HY.out _ (Below.on HB0.out (by assumption))).mono ?_)); rintro e w' ⟨rfl, hb⟩)
      | (go_at_call 56; refine (join_new [(formE 6).sign, ⟨(wiB (rkE y.kind) (formE 6).rank (txE y)).toArray⟩] _ (Nat.le_of_ble_eq_true rfl) HLEN.out).mono ?_; rintro e w' ⟨rfl, hb⟩))
  all_goals go_wp2_with fail
  all_goals go_ret
  all_goals exact ⟨ret_str HC.out, Below.on HB0.out (by assumption)⟩
end Go.Proofs.YtbpemackmadhgaaDoor

/- expr, at more kinds. -/
namespace Go.Proofs.YtbpemackmadhgaaDoor
open Go.RowKit Go.Sort

set_option maxRecDepth 100000 in
set_option maxHeartbeats 8000000 in
theorem expr20 (k : Nat) (h1 : ExprOk k) (h2 : WithinOk k) (n : Int) (s : ByteArray) (a : Option Addr) (c : Nat) (x y z : Ex) (w : World) (hk : (Ex.mk 20 n s a c [x, y, z]).sz ≤ k + 1) (hin : (Ex.mk 20 n s a c [x, y, z]).In w) (ht : Tabs w) (hnt : NumT w) (hok : OkE (Ex.mk 20 n s a c [x, y, z])) (hsz : (Ex.mk 20 n s a c [x, y, z]).sz ≤ 1000000) :
    Calls Tryd.prog 68 #[(Ex.mk 20 n s a c [x, y, z]).val] w fun e w' => e = .returned (sB (txE (Ex.mk 20 n s a c [x, y, z]))) ∧ Below w.heap.size w w' := by
  have hlen := txE_len (w := w) _ _ (Nat.le_refl _) hin hok
  have hz := (Ex.mk 20 n s a c [x, y, z]).sz_args
  simp only [Ex.args, szL] at hz
  have hin' := Ex.in_iff.1 hin
  simp only [Ex.kind, Ex.n, Ex.name, Ex.a, Ex.cap, Ex.args] at hin'
  obtain ⟨_, _, _, _, _, _, hrow, hsub⟩ := hin'
  have hoks := hok.parts.2
  simp only [Ex.args] at hoks
  have HC : Hid (cat [⟨(wiB (rkE x.kind) ((formE 20).rank + 1) (txE x)).toArray⟩, ⟨#[32, 63, 32]⟩, ⟨(txE y).toArray⟩, ⟨#[32, 58, 32]⟩, ⟨(txE z).toArray⟩] = txE (Ex.mk 20 n s a c [x, y, z])) := tx20 n s a c x y z
  have HLEN : Hid ((cat [⟨(wiB (rkE x.kind) ((formE 20).rank + 1) (txE x)).toArray⟩, ⟨#[32, 63, 32]⟩, ⟨(txE y).toArray⟩, ⟨#[32, 58, 32]⟩, ⟨(txE z).toArray⟩]).length ≤ 140737488355328) := by show _ ≤ _; rw [HC.out]; omega
  have HX : Hid (∀ w', Below w.heap.size w w' → Calls Tryd.prog 88 #[.agg #[.int .i64 x.kind, .int .i64 x.n, .string x.name, .slice x.a x.args.length x.cap], .int .i64 ((formE 20).rank + 1)] w' fun e w'' => e = .returned (sB (wiB (rkE x.kind) ((formE 20).rank + 1) (txE x))) ∧ Below w'.heap.size w' w'') := fun w' hb => h2 x ((formE 20).rank + 1) w' (by omega) ((hsub x (by simp)).stay hb) (ht.stay hb) (hnt.stay hb) (hoks x (by simp)) (by omega)
  have HY : Hid (∀ w', Below w.heap.size w w' → Calls Tryd.prog 68 #[.agg #[.int .i64 y.kind, .int .i64 y.n, .string y.name, .slice y.a y.args.length y.cap]] w' fun e w'' => e = .returned (sB (txE y)) ∧ Below w'.heap.size w' w'') := fun w' hb => h1 y w' (by omega) ((hsub y (by simp)).stay hb) (ht.stay hb) (hnt.stay hb) (hoks y (by simp)) (by omega)
  have HZ : Hid (∀ w', Below w.heap.size w w' → Calls Tryd.prog 68 #[.agg #[.int .i64 z.kind, .int .i64 z.n, .string z.name, .slice z.a z.args.length z.cap]] w' fun e w'' => e = .returned (sB (txE z)) ∧ Below w'.heap.size w' w'') := fun w' hb => h1 z w' (by omega) ((hsub z (by simp)).stay hb) (ht.stay hb) (hnt.stay hb) (hoks z (by simp)) (by omega)
  obtain ⟨t0, t1, t2, t3⟩ := ht.2 20 (by omega)
  have h1w : 1 < w.heap.size := lt_of_cell t0
  obtain ⟨b, o, rfl, c0, c1, c2, c3⟩ := row_0 hrow
  obtain ⟨b1, o1, he1, d0, d1, d2, d3⟩ := row_1 hrow
  cases he1
  obtain ⟨b2, o2, he2, e0, e1, e2, e3⟩ := row_2 hrow
  cases he2
  have hwr : IntKind.i64.wrap ((formE 20).rank + 1) = (formE 20).rank + 1 := by rw [IntKind.wrap_i64]; have := rank_bd 20 (by omega); omega
  clear h1 h2 hin ht hnt hok hrow hsub hoks
  unfold Ex.val
  simp only [Ex.kind, Ex.n, Ex.name, Ex.a, Ex.cap, Ex.args]
  go_enter Tryd.func68, Tryd.ntmps68
  go_wp2_with fail
  obtain ⟨hb0, x0, x1, x2, x3, f2, f3⟩ := exW_facts 20 n s (.slice (some ⟨b, o, none⟩) 3 c) (formE 20) w
  obtain ⟨W0, hW0⟩ : ∃ W0, exW 20 n s (.slice (some ⟨b, o, none⟩) 3 c) (formE 20) w = W0 := ⟨_, rfl⟩
  rw [hW0] at hb0 x0 x1 x2 x3 f2 f3
  unfold exW at hW0
  rw [hW0]
  have HB0 : Hid (Below w.heap.size w W0) := hb0
  have c0 := seen ((hb0.cell (lt_of_cell c0)).trans c0)
  have c1 := seen ((hb0.cell (lt_of_cell c1)).trans c1)
  have c2 := seen ((hb0.cell (lt_of_cell c2)).trans c2)
  have c3 := seen ((hb0.cell (lt_of_cell c3)).trans c3)
  have d0 := seen ((hb0.cell (lt_of_cell d0)).trans d0)
  have d1 := seen ((hb0.cell (lt_of_cell d1)).trans d1)
  have d2 := seen ((hb0.cell (lt_of_cell d2)).trans d2)
  have d3 := seen ((hb0.cell (lt_of_cell d3)).trans d3)
  have e0 := seen ((hb0.cell (lt_of_cell e0)).trans e0)
  have e1 := seen ((hb0.cell (lt_of_cell e1)).trans e1)
  have e2 := seen ((hb0.cell (lt_of_cell e2)).trans e2)
  have e3 := seen ((hb0.cell (lt_of_cell e3)).trans e3)
  have x2 := seen x2
  have x3 := seen x3
  have f2 := seen f2
  have f3 := seen f3
  clear hW0 hb0 x0 x1 t0 t1 t2 t3 h1w hk hsz hlen hz
  go_region_held3 (fun w' => Below W0.heap.size W0 w') (first | exact Below.drew (Below.refl _ _) | exact Below.on (by assumption) (by assumption) | exact Below.one (by assumption) _)
    (first
      | (go_at_call_of 88 (x.kind); refine (HX.out _ (Below.on HB0.out (by assumption))).mono ?_; rintro e w' ⟨rfl, hb⟩)
      | (go_at_call_of 68 (y.kind); refine (HY.out _ (Below.on HB0.out (by assumption))).mono ?_; rintro e w' ⟨rfl, hb⟩)
      | (go_at_call_of 68 (z.kind); refine (HZ.out _ (Below.on HB0.out (by assumption))).mono ?_; rintro e w' ⟨rfl, hb⟩)
      | (go_at_call 56; refine (join_new [⟨(wiB (rkE x.kind) ((formE 20).rank + 1) (txE x)).toArray⟩, ⟨#[32, 63, 32]⟩, ⟨(txE y).toArray⟩, ⟨#[32, 58, 32]⟩, ⟨(txE z).toArray⟩] _ (Nat.le_of_ble_eq_true rfl) HLEN.out).mono ?_; rintro e w' ⟨rfl, hb⟩))
  all_goals go_wp2_with fail
  all_goals go_ret
  all_goals exact ⟨ret_str HC.out, Below.on HB0.out (by assumption)⟩
end Go.Proofs.YtbpemackmadhgaaDoor

/- expr, at more kinds. -/
namespace Go.Proofs.YtbpemackmadhgaaDoor
open Go.RowKit Go.Sort

set_option maxRecDepth 100000 in
set_option maxHeartbeats 8000000 in
theorem exprTwo (k : Nat) (h2 : WithinOk k) (kn : Nat) (hkl : 7 ≤ kn) (hkh : kn ≤ 19) (n : Int) (s : ByteArray) (a : Option Addr) (c : Nat) (x y : Ex) (w : World) (hk : (Ex.mk kn n s a c [x, y]).sz ≤ k + 1) (hin : (Ex.mk kn n s a c [x, y]).In w) (ht : Tabs w) (hnt : NumT w) (hok : OkE (Ex.mk kn n s a c [x, y])) (hsz : (Ex.mk kn n s a c [x, y]).sz ≤ 1000000) :
    Calls Tryd.prog 68 #[(Ex.mk kn n s a c [x, y]).val] w fun e w' => e = .returned (sB (txE (Ex.mk kn n s a c [x, y]))) ∧ Below w.heap.size w w' := by
  have hlen := txE_len (w := w) _ _ (Nat.le_refl _) hin hok
  have hz := (Ex.mk kn n s a c [x, y]).sz_args
  simp only [Ex.args, szL] at hz
  have hin' := Ex.in_iff.1 hin
  simp only [Ex.kind, Ex.n, Ex.name, Ex.a, Ex.cap, Ex.args] at hin'
  obtain ⟨_, _, _, _, _, _, hrow, hsub⟩ := hin'
  have hoks := hok.parts.2
  simp only [Ex.args] at hoks
  have HC : Hid (cat [⟨(wiB (rkE x.kind) (formE kn).rank (txE x)).toArray⟩, ⟨#[32]⟩, (formE kn).sign, ⟨#[32]⟩, ⟨(wiB (rkE y.kind) ((formE kn).rank + 1) (txE y)).toArray⟩] = txE (Ex.mk kn n s a c [x, y])) := tx2 kn n (by omega) (by omega) s a c x y
  have HLEN : Hid ((cat [⟨(wiB (rkE x.kind) (formE kn).rank (txE x)).toArray⟩, ⟨#[32]⟩, (formE kn).sign, ⟨#[32]⟩, ⟨(wiB (rkE y.kind) ((formE kn).rank + 1) (txE y)).toArray⟩]).length ≤ 140737488355328) := by show _ ≤ _; rw [HC.out]; omega
  have HX : Hid (∀ w', Below w.heap.size w w' → Calls Tryd.prog 88 #[.agg #[.int .i64 x.kind, .int .i64 x.n, .string x.name, .slice x.a x.args.length x.cap], .int .i64 (formE kn).rank] w' fun e w'' => e = .returned (sB (wiB (rkE x.kind) (formE kn).rank (txE x))) ∧ Below w'.heap.size w' w'') := fun w' hb => h2 x ((formE kn).rank) w' (by omega) ((hsub x (by simp)).stay hb) (ht.stay hb) (hnt.stay hb) (hoks x (by simp)) (by omega)
  have HY : Hid (∀ w', Below w.heap.size w w' → Calls Tryd.prog 88 #[.agg #[.int .i64 y.kind, .int .i64 y.n, .string y.name, .slice y.a y.args.length y.cap], .int .i64 ((formE kn).rank + 1)] w' fun e w'' => e = .returned (sB (wiB (rkE y.kind) ((formE kn).rank + 1) (txE y))) ∧ Below w'.heap.size w' w'') := fun w' hb => h2 y ((formE kn).rank + 1) w' (by omega) ((hsub y (by simp)).stay hb) (ht.stay hb) (hnt.stay hb) (hoks y (by simp)) (by omega)
  obtain ⟨t0, t1, t2, t3⟩ := ht.2 kn (by omega)
  have h1w : 1 < w.heap.size := lt_of_cell t0
  obtain ⟨b, o, rfl, c0, c1, c2, c3⟩ := row_0 hrow
  obtain ⟨b1, o1, he1, d0, d1, d2, d3⟩ := row_1 hrow
  cases he1
  have q1 : ((kn : Int) == 1) = false := by simp only [beq_eq_false_iff_ne]; omega
  have q2 : ((kn : Int) == 2) = false := by simp only [beq_eq_false_iff_ne]; omega
  have q3 : ((kn : Int) == 3) = false := by simp only [beq_eq_false_iff_ne]; omega
  have q4 : ((kn : Int) == 4) = false := by simp only [beq_eq_false_iff_ne]; omega
  have q5 : ((kn : Int) == 5) = false := by simp only [beq_eq_false_iff_ne]; omega
  have q6 : ((kn : Int) == 6) = false := by simp only [beq_eq_false_iff_ne]; omega
  have q20 : ((kn : Int) == 20) = false := by simp only [beq_eq_false_iff_ne]; omega
  have hwr : IntKind.i64.wrap ((formE kn).rank + 1) = (formE kn).rank + 1 := by rw [IntKind.wrap_i64]; have := rank_bd kn (by omega); omega
  clear h2 hin ht hnt hok hrow hsub hoks
  unfold Ex.val
  simp only [Ex.kind, Ex.n, Ex.name, Ex.a, Ex.cap, Ex.args]
  go_enter Tryd.func68, Tryd.ntmps68
  go_wp2_with fail
  obtain ⟨hb0, x0, x1, x2, x3, f2, f3⟩ := exW_facts kn n s (.slice (some ⟨b, o, none⟩) 2 c) (formE kn) w
  obtain ⟨W0, hW0⟩ : ∃ W0, exW kn n s (.slice (some ⟨b, o, none⟩) 2 c) (formE kn) w = W0 := ⟨_, rfl⟩
  rw [hW0] at hb0 x0 x1 x2 x3 f2 f3
  unfold exW at hW0
  rw [hW0]
  have HB0 : Hid (Below w.heap.size w W0) := hb0
  have c0 := seen ((hb0.cell (lt_of_cell c0)).trans c0)
  have c1 := seen ((hb0.cell (lt_of_cell c1)).trans c1)
  have c2 := seen ((hb0.cell (lt_of_cell c2)).trans c2)
  have c3 := seen ((hb0.cell (lt_of_cell c3)).trans c3)
  have d0 := seen ((hb0.cell (lt_of_cell d0)).trans d0)
  have d1 := seen ((hb0.cell (lt_of_cell d1)).trans d1)
  have d2 := seen ((hb0.cell (lt_of_cell d2)).trans d2)
  have d3 := seen ((hb0.cell (lt_of_cell d3)).trans d3)
  have x2 := seen x2
  have x3 := seen x3
  have f2 := seen f2
  have f3 := seen f3
  clear hW0 hb0 x0 x1 t0 t1 t2 t3 h1w hk hsz hlen hz
  go_region_held3 (fun w' => Below W0.heap.size W0 w') (first | exact Below.drew (Below.refl _ _) | exact Below.on (by assumption) (by assumption) | exact Below.one (by assumption) _)
    (first
      | (go_at_call_of 88 (x.kind); refine (HX.out _ (Below.on HB0.out (by assumption))).mono ?_; rintro e w' ⟨rfl, hb⟩)
      | (go_at_call_of 88 (y.kind); refine (HY.out _ (Below.on HB0.out (by assumption))).mono ?_; rintro e w' ⟨rfl, hb⟩)
      | (go_at_call 56; refine (join_new [⟨(wiB (rkE x.kind) (formE kn).rank (txE x)).toArray⟩, ⟨#[32]⟩, (formE kn).sign, ⟨#[32]⟩, ⟨(wiB (rkE y.kind) ((formE kn).rank + 1) (txE y)).toArray⟩] _ (Nat.le_of_ble_eq_true rfl) HLEN.out).mono ?_; rintro e w' ⟨rfl, hb⟩))
  all_goals go_wp2_with fail
  all_goals go_ret
  all_goals exact ⟨ret_str HC.out, Below.on HB0.out (by assumption)⟩
end Go.Proofs.YtbpemackmadhgaaDoor

/- expr at numbers, names and calls; expr at every expression that has a form. -/
namespace Go.Proofs.YtbpemackmadhgaaDoor
open Go.RowKit Go.Sort

theorem commas_of {w : World} {v : Value} {xs : List ByteArray} {t : List UInt8} (h : Strs w v xs) (ht : comB (xs.map (·.data.toList)) = t) (hn : xs.length ≤ 1000000) (hlen : t.length ≤ 140737488355328) :
    Calls Tryd.prog 37 #[v] w fun e w' => e = .returned (sB t) ∧ Below w.heap.size w w' := by
  obtain ⟨a, cap, rfl, hcap, hc⟩ := h
  have := commas_any xs a cap w hc hn hcap (by rw [ht]; exact hlen)
  rwa [ht] at this
theorem len_szL : ∀ l : List Ex, l.length ≤ szL l
  | [] => by simp
  | x :: r => by rw [szL, List.length_cons]; have := x.sz_pos; have := len_szL r; omega
theorem comB_map (l : List Ex) : comB ((l.map fun x => (⟨(txE x).toArray⟩ : ByteArray)).map (·.data.toList)) = comB (l.map txE) := by
  rw [List.map_map]; rfl

set_option maxRecDepth 100000 in
set_option maxHeartbeats 4000000 in
theorem expr1 (n : Int) (s : ByteArray) (a : Option Addr) (c : Nat) (l : List Ex) (w : World) (hI : I64 n) (ht : Tabs w) (hnt : NumT w) :
    Calls Tryd.prog 68 #[(Ex.mk 1 n s a c l).val] w fun e w' => e = .returned (sB (Lib.itoa n)) ∧ Below w.heap.size w w' := by
  have HN : Hid (∀ w', Below w.heap.size w w' → Calls Tryd.prog 39 #[.int .i64 n] w' fun e w'' => e = .returned (sB (Lib.itoa n)) ∧ Below w'.heap.size w' w'') := fun w' hb => number_any n w' hI (hnt.stay hb)
  obtain ⟨t0, t1, t2, t3⟩ := ht.2 1 (by omega)
  have h1w : 1 < w.heap.size := lt_of_cell t0
  have hb0 := (exW_facts 1 n s (.slice a l.length c) (formE 1) w).1
  unfold exW at hb0
  clear ht hnt
  unfold Ex.val
  simp only [Ex.kind, Ex.n, Ex.name, Ex.a, Ex.cap, Ex.args]
  go_enter Tryd.func68, Tryd.ntmps68
  go_wp2_with fail
  refine (HN.out _ hb0).mono ?_
  rintro e w1 ⟨rfl, hb1⟩
  go_wp2_with fail
  go_ret
  exact ⟨rfl, Below.on hb0 hb1⟩

set_option maxRecDepth 100000 in
set_option maxHeartbeats 4000000 in
theorem expr2 (n : Int) (s : ByteArray) (a : Option Addr) (c : Nat) (l : List Ex) (w : World) (ht : Tabs w) :
    Calls Tryd.prog 68 #[(Ex.mk 2 n s a c l).val] w fun e w' => e = .returned (.string s) ∧ Below w.heap.size w w' := by
  obtain ⟨t0, t1, t2, t3⟩ := ht.2 2 (by omega)
  have h1w : 1 < w.heap.size := lt_of_cell t0
  have hb0 := (exW_facts 2 n s (.slice a l.length c) (formE 2) w).1
  unfold exW at hb0
  clear ht
  unfold Ex.val
  simp only [Ex.kind, Ex.n, Ex.name, Ex.a, Ex.cap, Ex.args]
  go_enter Tryd.func68, Tryd.ntmps68
  go_wp2_with fail
  go_ret
  exact ⟨rfl, hb0⟩

set_option maxRecDepth 100000 in
set_option maxHeartbeats 8000000 in
theorem expr4 (k : Nat) (h1 : ExprOk k) (n : Int) (s : ByteArray) (a : Option Addr) (c : Nat) (l : List Ex) (w : World) (hk : (Ex.mk 4 n s a c l).sz ≤ k + 1) (hin : (Ex.mk 4 n s a c l).In w) (ht : Tabs w) (hnt : NumT w) (hok : OkE (Ex.mk 4 n s a c l)) (hsz : (Ex.mk 4 n s a c l).sz ≤ 1000000) :
    Calls Tryd.prog 68 #[(Ex.mk 4 n s a c l).val] w fun e w' => e = .returned (sB (txE (Ex.mk 4 n s a c l))) ∧ Below w.heap.size w w' := by
  have hlen := txE_len (w := w) _ _ (Nat.le_refl _) hin hok
  have hz := (Ex.mk 4 n s a c l).sz_args
  simp only [Ex.args] at hz
  have hin' := Ex.in_iff.1 hin
  simp only [Ex.kind, Ex.n, Ex.name, Ex.a, Ex.cap, Ex.args] at hin'
  obtain ⟨_, _, _, _, _, _, hrow, hsub⟩ := hin'
  have hoks := hok.parts.2
  simp only [Ex.args] at hoks
  have hll := len_szL l
  have HC : Hid (cat [s, ⟨#[40]⟩, ⟨(comB (l.map txE)).toArray⟩, ⟨#[41]⟩] = txE (Ex.mk 4 n s a c l)) := tx4 n s a c l
  have HLEN : Hid ((cat [s, ⟨#[40]⟩, ⟨(comB (l.map txE)).toArray⟩, ⟨#[41]⟩]).length ≤ 140737488355328) := by show _ ≤ _; rw [HC.out]; omega
  have HLE2 : Hid ((comB (l.map txE)).length ≤ 140737488355328) := by show _ ≤ _; have := HLEN.out; simp [cat] at this; omega
  have HEA : Hid (∀ w', Below w.heap.size w w' → Calls Tryd.prog 87 #[.slice a l.length c, .func (.func 68) #[] #[]] w' fun e w'' => ∃ va vc, e = .returned (.slice va l.length vc) ∧ Hid (Strs w'' (.slice va l.length vc) (l.map fun x => ⟨(txE x).toArray⟩)) ∧ Below w'.heap.size w' w'') := fun w' hb =>
    (eachExpr_any l a c w' (by omega) (hrow.below hb) (fun x hx w'' hb' => h1 x w'' (by have := szL_mem hx; omega) (((hsub x hx).stay hb).stay hb') ((ht.stay hb).stay hb') ((hnt.stay hb).stay hb') (hoks x hx) (by have := szL_mem hx; omega))).mono fun e w'' ⟨v, he, hs, hb'⟩ => by
      obtain ⟨va, vc, hv, hcap, hcc⟩ := hs
      rw [List.length_map] at hv hcap
      subst hv
      exact ⟨va, vc, he, ⟨va, vc, by rw [List.length_map], by rw [List.length_map]; exact hcap, hcc⟩, hb'⟩
  have HLM : Hid ((l.map fun x => (⟨(txE x).toArray⟩ : ByteArray)).length ≤ 1000000) := by show _ ≤ _; rw [List.length_map]; omega
  obtain ⟨t0, t1, t2, t3⟩ := ht.2 4 (by omega)
  have h1w : 1 < w.heap.size := lt_of_cell t0
  clear h1 hin ht hnt hok hrow hsub hoks
  unfold Ex.val
  simp only [Ex.kind, Ex.n, Ex.name, Ex.a, Ex.cap, Ex.args]
  go_enter Tryd.func68, Tryd.ntmps68
  go_wp2_with fail
  obtain ⟨hb0, x0, x1, x2, x3, f2, f3⟩ := exW_facts 4 n s (.slice a l.length c) (formE 4) w
  obtain ⟨W0, hW0⟩ : ∃ W0, exW 4 n s (.slice a l.length c) (formE 4) w = W0 := ⟨_, rfl⟩
  rw [hW0] at hb0 x0 x1 x2 x3 f2 f3
  unfold exW at hW0
  rw [hW0]
  have HB0 : Hid (Below w.heap.size w W0) := hb0
  have x2 := seen x2
  have x3 := seen x3
  clear hW0 hb0 x0 x1 f2 f3 t0 t1 t2 t3 h1w hk hsz hlen hz hll
  go_region_held3 (fun w' => Below W0.heap.size W0 w') (first | exact Below.drew (Below.refl _ _) | exact Below.on (by assumption) (by assumption) | exact Below.one (by assumption) _)
    (first
      | (go_at_call 87; refine (HEA.out _ (Below.on HB0.out (by assumption))).mono ?_; rintro e w' ⟨va, vc, rfl, hs, hb⟩)
      | (go_at_call 37; refine (commas_of hs.out (comB_map l) HLM.out HLE2.out).mono ?_; rintro e w' ⟨rfl, hb⟩)
      | (go_at_call 56; refine (join_new [s, ⟨#[40]⟩, ⟨(comB (l.map txE)).toArray⟩, ⟨#[41]⟩] _ (Nat.le_of_ble_eq_true rfl) HLEN.out).mono ?_; rintro e w' ⟨rfl, hb⟩))
  all_goals go_wp2_with fail
  all_goals go_ret
  all_goals exact ⟨ret_str HC.out, Below.on HB0.out (by assumption)⟩

theorem expr_step (k : Nat) (h1 : ExprOk k) : ExprOk (k + 1) := by
  have h2 : WithinOk k := fun x least w hk hin ht hnt hok hsz => within_step k h1 x least w hk hin ht hnt hok hsz
  intro x w hk hin ht hnt hok hsz
  obtain ⟨kn, hkn, hk1, hk2, hlen, _, _⟩ := selfE_zero hok.parts.1
  obtain ⟨kd, n, s, a, c, l⟩ := x
  simp only [Ex.kind, Ex.args] at hkn hlen
  subst hkn
  have hI : I64 n := (Ex.in_iff.1 hin).2.1
  by_cases e1 : kn = 1
  · subst e1
    have : txE (Ex.mk ((1 : Nat) : Int) n s a c l) = Lib.itoa n := by rw [txE_eq]; rfl
    rw [this]
    exact expr1 n s a c l w hI ht hnt
  by_cases e2 : kn = 2
  · subst e2
    have : txE (Ex.mk ((2 : Nat) : Int) n s a c l) = s.data.toList := by rw [txE_eq]; rfl
    rw [this]
    exact expr2 n s a c l w ht
  by_cases e3 : kn = 3
  · subst e3
    match l, hlen (by decide) with
    | [y], _ => exact expr3 k h1 n s a c y w hk hin ht hnt hok hsz
    | [], h => simp [formE] at h
    | _ :: _ :: _, h => simp [formE] at h; omega
  by_cases e4 : kn = 4
  · subst e4; exact expr4 k h1 n s a c l w hk hin ht hnt hok hsz
  by_cases e5 : kn = 5
  · subst e5
    match l, hlen (by decide) with
    | [y], _ => exact expr5 k h2 n s a c y w hk hin ht hnt hok hsz
    | [], h => simp [formE] at h
    | _ :: _ :: _, h => simp [formE] at h; omega
  by_cases e6 : kn = 6
  · subst e6
    match l, hlen (by decide) with
    | [y], _ => exact expr6 k h2 n s a c y w hk hin ht hnt hok hsz
    | [], h => simp [formE] at h
    | _ :: _ :: _, h => simp [formE] at h; omega
  by_cases e20 : kn = 20
  · subst e20
    match l, hlen (by decide) with
    | [x, y, z], _ => exact expr20 k h1 h2 n s a c x y z w hk hin ht hnt hok hsz
    | [], h => simp [formE] at h
    | [_], h => simp [formE] at h
    | [_, _], h => simp [formE] at h
    | _ :: _ :: _ :: _ :: _, h => simp [formE] at h; omega
  · have ha := args_two kn (by omega) hk2 e20
    rw [ha] at hlen
    match l, hlen (by decide) with
    | [x, y], _ => exact exprTwo k h2 kn (by omega) (by omega) n s a c x y w hk hin ht hnt hok hsz
    | [], h => simp at h
    | [_], h => simp at h
    | _ :: _ :: _ :: _, h => simp at h; omega
theorem expr_all (k : Nat) : ExprOk k := by
  induction k with
  | zero => intro x w h; have := x.sz_pos; omega
  | succ k ih => exact expr_step k ih
theorem expr_any (x : Ex) (w : World) (hin : x.In w) (ht : Tabs w) (hnt : NumT w) (hok : OkE x) (hsz : x.sz ≤ 1000000) : Calls Tryd.prog 68 #[x.val] w fun e w' => e = .returned (sB (txE x)) ∧ Below w.heap.size w w' := expr_all _ x w (Nat.le_refl _) hin ht hnt hok hsz
end Go.Proofs.YtbpemackmadhgaaDoor

/- Statements' and programs' texts. -/
namespace Go.Proofs.YtbpemackmadhgaaDoor
open Go.RowKit

mutual
def txS : St → Nat → List UInt8
  | .mk k s n a b _ _ l _ _ e _ _ c, d =>
    if k = 1 then lineB d ([108, 101, 116, 32] ++ s.data.toList ++ [32, 61, 32] ++ txE a ++ [59])
    else if k = 2 then lineB d ([108, 101, 116, 32] ++ s.data.toList ++ [91] ++ Lib.itoa n ++ [93, 59])
    else if k = 3 then lineB d (s.data.toList ++ [32, 61, 32] ++ txE a ++ [59])
    else if k = 4 then lineB d (s.data.toList ++ [91] ++ txE a ++ [93, 32, 61, 32] ++ txE b ++ [59])
    else if k = 5 then lineB d ([105, 102, 32] ++ txE a ++ [32, 123]) ++ txSs l (d + 1) ++ (if e.length = 0 then [] else lineB d [125, 32, 101, 108, 115, 101, 32, 123] ++ txSs e (d + 1)) ++ lineB d [125]
    else if k = 6 then lineB d ([115, 119, 105, 116, 99, 104, 32] ++ txE a ++ [32, 123]) ++ txCs c (d + 1) ++ (if e.length = 0 then [] else lineB (d + 1) [101, 108, 115, 101, 32, 123] ++ txSs e (d + 2) ++ lineB (d + 1) [125]) ++ lineB d [125]
    else if k = 7 then lineB d ([102, 111, 114, 32] ++ s.data.toList ++ [32, 105, 110, 32] ++ txE a ++ [46, 46] ++ txE b ++ [32, 123]) ++ txSs l (d + 1) ++ lineB d [125]
    else if k = 8 then lineB d [98, 114, 101, 97, 107, 59]
    else if k = 9 then lineB d ([114, 101, 116, 117, 114, 110, 32] ++ txE a ++ [59])
    else lineB d (txE a ++ [59])
def txSs : List St → Nat → List UInt8
  | [], _ => []
  | s :: r, d => txS s d ++ txSs r d
def txC : Ca → Nat → List UInt8
  | .mk n _ _ l, d => lineB d ([99, 97, 115, 101, 32] ++ Lib.itoa n ++ [32, 123]) ++ txSs l (d + 1) ++ lineB d [125]
def txCs : List Ca → Nat → List UInt8
  | [], _ => []
  | c :: r, d => txC c d ++ txCs r d
end
theorem txSs_take (l : List St) (d j : Nat) (h : j < l.length) : txSs (l.take (j + 1)) d = txSs (l.take j) d ++ txS l[j] d := by
  induction l generalizing j with
  | nil => simp at h
  | cons x r ih =>
    cases j with
    | zero => simp [txSs]
    | succ j =>
      have := ih j (by simpa using h)
      rw [List.take_succ_cons, List.take_succ_cons, txSs, txSs, this]; simp
theorem txSs_le (l : List St) (d j : Nat) : (txSs (l.take j) d).length ≤ (txSs l d).length := by
  induction l generalizing j with
  | nil => simp
  | cons x r ih =>
    cases j with
    | zero => simp [txSs]
    | succ j => rw [List.take_succ_cons, txSs, txSs]; simp only [List.length_append]; have := ih j; omega
/-- A function's text. -/
def txF (f : Fu) : List UInt8 := lineB 0 ([102, 110, 32] ++ f.name.data.toList ++ [40] ++ comB (f.params.map paB) ++ [41, 32, 123]) ++ txSs f.body 1 ++ lineB 0 [125]
def txFs : List Fu → List UInt8
  | [] => []
  | f :: r => txF f ++ txFs r
theorem txFs_take (l : List Fu) (j : Nat) (h : j < l.length) : txFs (l.take (j + 1)) = txFs (l.take j) ++ txF l[j] := by
  induction l generalizing j with
  | nil => simp at h
  | cons x r ih =>
    cases j with
    | zero => simp [txFs]
    | succ j =>
      have := ih j (by simpa using h)
      rw [List.take_succ_cons, List.take_succ_cons, txFs, txFs, this]; simp
theorem txFs_le (l : List Fu) (j : Nat) : (txFs (l.take j)).length ≤ (txFs l).length := by
  induction l generalizing j with
  | nil => simp
  | cons x r ih =>
    cases j with
    | zero => simp [txFs]
    | succ j => rw [List.take_succ_cons, txFs, txFs]; simp only [List.length_append]; have := ih j; omega
def txW (l : List Int) : List UInt8 := if l.length = 0 then [] else lineB 0 ([119, 105, 100, 101, 110, 32] ++ comB (l.map Lib.itoa) ++ [59])
/-- A program's text. -/
def txP (p : Pr) : List UInt8 := txW p.widen ++ txFs p.funcs
end Go.Proofs.YtbpemackmadhgaaDoor

/- A page's body of statements; a return. -/
namespace Go.Proofs.YtbpemackmadhgaaDoor
open Go.RowKit Go.Sort

/-- line at pieces that have just been laid. -/
theorem line_new (B b : Nat) (l : List UInt8) (d : Nat) (xs : List ByteArray) (W : World) (h : PgT B b l d W) (hB : B ≤ W.heap.size) (hn : xs.length ≤ 1000) (hd : d ≤ 100) (hlen : (l ++ lineB d (cat xs)).length ≤ 140737488355328) :
    Calls Tryd.prog 36 #[.pointer (some ⟨b, 0, none⟩), .slice (some ⟨W.heap.size, 0, none⟩) xs.length xs.length] (W.alloc (.cells (xs.map Value.string).toArray 9)) fun e w' => e = .returned (.tuple #[]) ∧ PgT B b (l ++ lineB d (cat xs)) d w' ∧ Below B (W.alloc (.cells (xs.map Value.string).toArray 9)) w' ∧ Oth b (W.alloc (.cells (xs.map Value.string).toArray 9)) w' := by
  have hlt : b < W.heap.size := by obtain ⟨p, h1⟩ := h.some; exact h1.lt
  have hb := (Below.refl _ W).alloc (Nat.le_refl _) (.cells (xs.map Value.string).toArray 9)
  refine line_any B b l d xs W.heap.size xs.length _ (h.stay hb) (by simp; omega) ⟨_, _, heap_alloc_new W _, fun j x hj => by simp [hj]⟩ (by omega) hn hd hlen

/-- What page.stmt does at a statement, in every world behind w0. -/
abbrev StmtPr (w0 : World) (s : St) : Prop := ∀ (b : Nat) (l : List UInt8) (d : Nat) (w : World), Below w0.heap.size w0 w → PgT w0.heap.size b l d w → d ≤ 60 → (l ++ txS s d).length ≤ 140737488355328 →
  Calls Tryd.prog 57 #[.pointer (some ⟨b, 0, none⟩), s.val] w fun e w' => e = .returned (.tuple #[]) ∧ PgT w0.heap.size b (l ++ txS s d) d w' ∧ Below w0.heap.size w w' ∧ Oth b w w'

theorem box_oth {W W' : World} {b B1 : Nat} {cs : Array Value} (h : W.heap[B1]? = some (.cells cs 46 (0, 0))) (hb : B1 ≠ b) (ho : Oth b W W') : W'.heap[B1]? = some (.cells cs 46 (0, 0)) :=
  ho B1 _ h (by simpa using hb) (fun c fz e => by cases e)

set_option maxRecDepth 100000 in
set_option maxHeartbeats 8000000 in
theorem body_any (w0 : World) (b : Nat) (l : List UInt8) (d : Nat) (list : List St) (a : Option Addr) (c : Nat) (w : World) (hB : Below w0.heap.size w0 w) (hp : PgT w0.heap.size b l d w) (hd : d ≤ 50) (hin : Have w0 a c list) (hs : ∀ s ∈ list, StmtPr w0 s) (hlen : (l ++ txSs list (d + 1)).length ≤ 140737488355328) :
    Calls Tryd.prog 42 #[.pointer (some ⟨b, 0, none⟩), .slice a list.length c] w fun e w' => e = .returned (.tuple #[]) ∧ PgT w0.heap.size b (l ++ txSs list (d + 1)) d w' ∧ Below w0.heap.size w w' ∧ Oth b w w' := by
  obtain ⟨⟨hl, hc, _, hrow⟩, hsub⟩ := hin
  have HR : Hid (RowIn w0 a 14 (List.map St.cells list)) := hrow
  have HS : Hid (∀ s ∈ list, StmtPr w0 s) := hs
  have HB : Hid (Below w0.heap.size w0 w) := hB
  have HLEN : Hid (l.length + (txSs list (d + 1)).length ≤ 140737488355328) := by show _ ≤ _; simpa using hlen
  obtain ⟨p, h1⟩ := hp.some
  have hBb := h1.1
  have hblt := h1.lt
  have c2 : w.cell? ⟨b, 2, none⟩ = some (.int .i64 d) := by
    obtain ⟨ao, cp, hbk, _⟩ := h1.slice
    rw [Lib.cell_of_heap hbk]; rfl
  have q2 := h1.frozen 2
  have HP1 : Hid (PgT w0.heap.size b l (d + 1) (w.setCell ⟨b, 2, none⟩ (.int .i64 (d + 1)))) := by
    show Pg _ _ _ _ _
    rcases hp with h | h
    · exact .inl (h.deep _)
    · exact .inr (h.deep _)
  have HB1 : Hid (Below w0.heap.size w (w.setCell ⟨b, 2, none⟩ (.int .i64 (d + 1)))) := (Below.refl _ w).setCell (p := ⟨b, 2, none⟩) hBb _
  have HO1 : Hid (Oth b w (w.setCell ⟨b, 2, none⟩ (.int .i64 (d + 1)))) := (Lib.OthersKept.refl _ (some b) w).setCell ⟨b, 2, none⟩ rfl _
  clear hrow hsub hs hB hlen hp h1
  go_enter Tryd.func42, Tryd.ntmps42
  go_wp2_with fail
  go_loopw [15] (fun t15 wr => ∃ (j : Nat), j ≤ list.length ∧ t15 = .int .i64 j ∧ PgT w0.heap.size b (l ++ txSs (list.take j) (d + 1)) (d + 1) wr ∧ Below w0.heap.size w wr ∧ Oth b w wr) (fun t15 _ => list.length - (intOf t15).toNat)
  case atStart => exact ⟨0, Nat.zero_le _, rfl, by simpa [txSs] using HP1.out, HB1.out, HO1.out⟩
  case round =>
    obtain ⟨j, hj, rfl, hpg, hb, ho⟩ := hrel
    have HPG : Hid (PgT w0.heap.size b (l ++ txSs (list.take j) (d + 1)) (d + 1) wr) := hpg
    clear hpg c2 q2 HP1 HB1 HO1
    have hws := hb.size
    have hws0 := HB.out.size
    have hb0 : Below w0.heap.size w0 wr := HB.out.trans hb
    by_cases hlt : j < list.length
    · obtain ⟨rb, o, rfl, hcell⟩ := rowS_at (HR.out.below hb0) hlt
      have c0 := hcell 0 _ rfl
      have c1 := hcell 1 _ rfl
      have c2 := hcell 2 _ rfl
      have c3 := hcell 3 _ rfl
      have c4 := hcell 4 _ rfl
      have c5 := hcell 5 _ rfl
      have c6 := hcell 6 _ rfl
      have c7 := hcell 7 _ rfl
      have c8 := hcell 8 _ rfl
      have c9 := hcell 9 _ rfl
      have c10 := hcell 10 _ rfl
      have c11 := hcell 11 _ rfl
      have c12 := hcell 12 _ rfl
      have c13 := hcell 13 _ rfl
      simp only [← Nat.add_assoc, Nat.add_zero] at c0 c1 c2 c3 c4 c5 c6 c7 c8 c9 c10 c11 c12 c13
      clear hcell
      have hli : (j : Int) < (list.length : Int) := by omega
      have HT : Hid (txSs (list.take (j + 1)) (d + 1) = txSs (list.take j) (d + 1) ++ txS list[j] (d + 1)) := txSs_take list (d + 1) j hlt
      have HLE : Hid ((txSs (list.take (j + 1)) (d + 1)).length ≤ (txSs list (d + 1)).length) := txSs_le list (d + 1) (j + 1)
      have HST : Hid (StmtPr w0 list[j]) := HS.out list[j] (List.getElem_mem hlt)
      generalize list[j] = s at *
      have hb1 := (Below.refl _ wr).alloc (Nat.le_refl _) (.cells #[.int .i64 s.kind, .string s.name, .int .i64 s.n, .int .i64 s.a.kind, .int .i64 s.a.n, .string s.a.name, .slice s.a.a s.a.args.length s.a.cap, .int .i64 s.b.kind, .int .i64 s.b.n, .string s.b.name, .slice s.b.a s.b.args.length s.b.cap, .slice s.ba s.body.length s.bc, .slice s.ea s.els.length s.ec, .slice s.ca s.cases.length s.cc] 46)
      have HPG1 := HPG.out.stay hb1
      have HO1 : Oth b wr _ := oth_below hb1
      have hb2 : Below w0.heap.size w _ := hb.alloc (by omega) (.cells #[.int .i64 s.kind, .string s.name, .int .i64 s.n, .int .i64 s.a.kind, .int .i64 s.a.n, .string s.a.name, .slice s.a.a s.a.args.length s.a.cap, .int .i64 s.b.kind, .int .i64 s.b.n, .string s.b.name, .slice s.b.a s.b.args.length s.b.cap, .slice s.ba s.body.length s.bc, .slice s.ea s.els.length s.ec, .slice s.ca s.cases.length s.cc] 46)
      go_wp2_with fail
      refine (HST.out b _ (d + 1) _ (HB.out.trans hb2) HPG1 (by omega) (by have := HLE.out; have := HLEN.out; rw [HT.out] at *; simp only [List.length_append] at *; omega)).mono ?_
      rintro e w1 ⟨rfl, hp1, hbs, hos⟩
      have HPG2 : Hid (PgT w0.heap.size b (l ++ txSs (list.take (j + 1)) (d + 1)) (d + 1) w1) := by
        show PgT _ _ _ _ _; rw [HT.out, ← List.append_assoc]; exact hp1
      clear hp1 HPG1
      go_wp2_with fail
      go_roundw
      case rel => exact ⟨j + 1, by omega, by go_num, HPG2.out, hb2.trans hbs, (ho.trans HO1).trans hos⟩
      case measure => simp [intOf]; omega
    · obtain rfl : j = list.length := by omega
      have HPG3 : Hid (PgT w0.heap.size b (l ++ txSs list (d + 1)) (d + 1) wr) := by
        show PgT _ _ _ _ _; have := HPG.out; rwa [List.take_length] at this
      obtain ⟨p, h1⟩ := HPG3.out.some
      have c2 : wr.cell? ⟨b, 2, none⟩ = some (.int .i64 ((d + 1 : Nat) : Int)) := by
        obtain ⟨ao, cp, hbk, _⟩ := h1.slice
        rw [Lib.cell_of_heap hbk]; rfl
      have q2 := h1.frozen 2
      have HP4 : Hid (PgT w0.heap.size b (l ++ txSs list (d + 1)) d (wr.setCell ⟨b, 2, none⟩ (.int .i64 d))) := by
        show Pg _ _ _ _ _
        rcases HPG3.out with h | h
        · exact .inl (h.deep _)
        · exact .inr (h.deep _)
      clear h1
      go_wp2_with fail
      go_end0
      exact ⟨rfl, HP4.out, hb.setCell (p := ⟨b, 2, none⟩) hBb _, ho.setCell ⟨b, 2, none⟩ rfl _⟩

set_option maxRecDepth 100000 in
set_option maxHeartbeats 8000000 in
theorem stmt9 (w0 : World) (s : St) (hk : s.kind = 9) (hin : s.In w0) (ht : Tabs w0) (hnt : NumT w0) (hok : OkE s.a) (hsz : s.a.sz ≤ 1000000) : StmtPr w0 s := by
  intro b l d w hB hp hd hlen
  have HT : Hid (lineB d (cat [⟨#[114, 101, 116, 117, 114, 110, 32]⟩, ⟨(txE s.a).toArray⟩, ⟨#[59]⟩]) = txS s d) := by
    show _ = _; cases s; simp only [St.kind] at hk; subst hk; simp [txS, cat, St.a]
  rw [← HT.out] at hlen ⊢
  have HLEN : Hid ((l ++ lineB d (cat [⟨#[114, 101, 116, 117, 114, 110, 32]⟩, ⟨(txE s.a).toArray⟩, ⟨#[59]⟩])).length ≤ 140737488355328) := hlen
  have HX : Hid (∀ w', Below w0.heap.size w0 w' → Calls Tryd.prog 68 #[.agg #[.int .i64 s.a.kind, .int .i64 s.a.n, .string s.a.name, .slice s.a.a s.a.args.length s.a.cap]] w' fun e w'' => e = .returned (sB (txE s.a)) ∧ Below w'.heap.size w' w'') := fun w' hb => expr_any s.a w' ((St.in_iff.1 hin).2.2.2.1.stay hb) (ht.stay hb) (hnt.stay hb) hok hsz
  have HP : Hid (PgT w0.heap.size b l d w) := hp
  have hsw := hB.size
  clear hin ht hnt hok hp hlen HT
  unfold St.val
  rw [hk]
  go_enter Tryd.func57, Tryd.ntmps57
  go_wp2_with fail
  have hb0 := (Below.refl _ w).alloc (Nat.le_refl _) (.cells #[.int .i64 9, .string s.name, .int .i64 s.n, .int .i64 s.a.kind, .int .i64 s.a.n, .string s.a.name, .slice s.a.a s.a.args.length s.a.cap, .int .i64 s.b.kind, .int .i64 s.b.n, .string s.b.name, .slice s.b.a s.b.args.length s.b.cap, .slice s.ba s.body.length s.bc, .slice s.ea s.els.length s.ec, .slice s.ca s.cases.length s.cc] 46)
  have hB0 : Below w0.heap.size w0 _ := hB.alloc hsw (.cells #[.int .i64 9, .string s.name, .int .i64 s.n, .int .i64 s.a.kind, .int .i64 s.a.n, .string s.a.name, .slice s.a.a s.a.args.length s.a.cap, .int .i64 s.b.kind, .int .i64 s.b.n, .string s.b.name, .slice s.b.a s.b.args.length s.b.cap, .slice s.ba s.body.length s.bc, .slice s.ea s.els.length s.ec, .slice s.ca s.cases.length s.cc] 46)
  refine (HX.out _ hB0).mono ?_
  rintro e w1 ⟨rfl, hb1⟩
  have hb2 := Below.on hb0 hb1
  go_wp2_with fail
  refine (line_new w0.heap.size b l d [⟨#[114, 101, 116, 117, 114, 110, 32]⟩, ⟨(txE s.a).toArray⟩, ⟨#[59]⟩] w1 (HP.out.stay hb2) (by have := hb2.size; omega) (Nat.le_of_ble_eq_true rfl) (by omega) HLEN.out).mono ?_
  rintro e w2 ⟨rfl, hp2, hb3, ho3⟩
  have HP2 : Hid (PgT w0.heap.size b (l ++ lineB d (cat [⟨#[114, 101, 116, 117, 114, 110, 32]⟩, ⟨(txE s.a).toArray⟩, ⟨#[59]⟩])) d w2) := hp2
  clear hp2
  go_wp2_with fail
  go_end0
  exact ⟨rfl, HP2.out, ((hb2.mono hsw).alloc (by have := hb2.size; omega) _).trans hb3, ((oth_below hb2).alloc _).trans ho3⟩
end Go.Proofs.YtbpemackmadhgaaDoor

/- sameExpr at any depth. -/
namespace Go.Proofs.YtbpemackmadhgaaDoor
open Go.RowKit

set_option maxRecDepth 100000 in
set_option maxHeartbeats 4000000 in
theorem sameExpr_step (k : Nat) (h2 : ∀ (l t : List Ex) (a a' : Option Addr) (c c' : Nat) (w : World), szL l ≤ k → HaveE w a c l → HaveE w a' c' t → Calls Tryd.prog 80 #[.slice a l.length c, .slice a' t.length c', .func (.func 62) #[] #[]] w fun e w' => e = .returned (.bool (samEs l t)) ∧ Below w.heap.size w w')
    (x y : Ex) (w : World) (hk : x.sz ≤ k + 1) (hx : x.In w) (hy : y.In w) : Calls Tryd.prog 62 #[x.val, y.val] w fun e w' => e = .returned (.bool (samE x y)) ∧ Below w.heap.size w w' := by
  have hb1 := ((Below.refl _ w).alloc (Nat.le_refl _) (.cells #[.int .i64 x.kind, .int .i64 x.n, .string x.name, .slice x.a x.args.length x.cap] 39)).alloc (by simp) (.cells #[.int .i64 y.kind, .int .i64 y.n, .string y.name, .slice y.a y.args.length y.cap] 39)
  have HQ : Hid (∀ w', Below w.heap.size w w' → Calls Tryd.prog 80 #[.slice x.a x.args.length x.cap, .slice y.a y.args.length y.cap, .func (.func 62) #[] #[]] w' fun e w'' => e = .returned (.bool (samEs x.args y.args)) ∧ Below w'.heap.size w' w'') := fun w' hb => h2 _ _ _ _ _ _ w' (by have := x.sz_args; omega) ((hx.stay hb).have) ((hy.stay hb).have)
  have HE : Hid (samE x y = (x.kind == y.kind && (x.n == y.n && (x.name.toList == y.name.toList && samEs x.args y.args)))) := samE_eq x y
  clear h2 hx hy
  generalize samE x y = res at HE ⊢
  generalize samEs x.args y.args = sub at HE HQ
  unfold Ex.val
  cases e1 : (x.kind == y.kind)
  · go_enter Tryd.func62, Tryd.ntmps62
    go_wp2_with fail
    go_ret
    exact ⟨ret_bool (by rw [HE.out, e1]; rfl), hb1⟩
  · cases e2 : (x.n == y.n)
    · go_enter Tryd.func62, Tryd.ntmps62
      go_wp2_with fail
      go_ret
      exact ⟨ret_bool (by rw [HE.out, e1, e2]; rfl), hb1⟩
    · cases e3 : (x.name.toList == y.name.toList)
      · go_enter Tryd.func62, Tryd.ntmps62
        go_wp2_with fail
        go_ret
        exact ⟨ret_bool (by rw [HE.out, e1, e2, e3]; rfl), hb1⟩
      · go_enter Tryd.func62, Tryd.ntmps62
        go_wp2_with fail
        refine (HQ.out _ hb1).mono ?_
        rintro e w' ⟨rfl, hb'⟩
        go_wp2_with fail
        go_ret
        exact ⟨ret_bool (by rw [HE.out, e1, e2, e3]; rfl), hb1.trans (hb'.mono hb1.size)⟩

theorem sameE_any (k : Nat) : (∀ (x y : Ex) (w : World), x.sz ≤ k → x.In w → y.In w → Calls Tryd.prog 62 #[x.val, y.val] w fun e w' => e = .returned (.bool (samE x y)) ∧ Below w.heap.size w w') := by
  induction k with
  | zero => intro x y w h; have := x.sz_args; omega
  | succ k ih => exact fun x y w hk hx hy => sameExpr_step k (fun l t a a' c c' w hk ha hb => eqE_step k ih l t a a' c c' w hk ha hb) x y w hk hx hy
theorem sameExpr_any (x y : Ex) (w : World) (hx : x.In w) (hy : y.In w) : Calls Tryd.prog 62 #[x.val, y.val] w fun e w' => e = .returned (.bool (samE x y)) ∧ Below w.heap.size w w' := sameE_any _ x y w (Nat.le_refl _) hx hy

mutual
def samS : St → St → Bool
  | .mk k s n a b _ _ l _ _ e _ _ c, y => k == y.kind && (s.toList == y.name.toList && (n == y.n && (samE a y.a && (samE b y.b && (samSs l y.body && (samSs e y.els && samCs c y.cases))))))
def samSs : List St → List St → Bool
  | [], [] => true
  | x :: r, y :: t => samS x y && samSs r t
  | [], _ :: _ => false
  | _ :: _, [] => false
def samC : Ca → Ca → Bool
  | .mk n _ _ l, y => n == y.n && samSs l y.body
def samCs : List Ca → List Ca → Bool
  | [], [] => true
  | x :: r, y :: t => samC x y && samCs r t
  | [], _ :: _ => false
  | _ :: _, [] => false
end
theorem samS_eq (x y : St) : samS x y = (x.kind == y.kind && (x.name.toList == y.name.toList && (x.n == y.n && (samE x.a y.a && (samE x.b y.b && (samSs x.body y.body && (samSs x.els y.els && samCs x.cases y.cases))))))) := by
  cases x; simp only [samS, St.kind, St.name, St.n, St.a, St.b, St.body, St.els, St.cases]
theorem samC_eq (x y : Ca) : samC x y = (x.n == y.n && samSs x.body y.body) := by cases x; simp only [samC, Ca.n, Ca.body]
theorem samSs_len : ∀ {l t : List St}, l.length ≠ t.length → samSs l t = false
  | [], [], h => by simp at h
  | [], _ :: _, _ => by simp [samSs]
  | _ :: _, [], _ => by simp [samSs]
  | x :: r, y :: t, h => by simp only [samSs]; rw [samSs_len (by simpa using h)]; simp
theorem samCs_len : ∀ {l t : List Ca}, l.length ≠ t.length → samCs l t = false
  | [], [], h => by simp at h
  | [], _ :: _, _ => by simp [samCs]
  | _ :: _, [], _ => by simp [samCs]
  | x :: r, y :: t, h => by simp only [samCs]; rw [samCs_len (by simpa using h)]; simp
theorem samSs_drop {l t : List St} {j : Nat} (h : j < l.length) (h' : j < t.length) : samSs (l.drop j) (t.drop j) = (samS l[j] t[j] && samSs (l.drop (j + 1)) (t.drop (j + 1))) := by
  rw [List.drop_eq_getElem_cons h, List.drop_eq_getElem_cons h', samSs]
theorem samCs_drop {l t : List Ca} {j : Nat} (h : j < l.length) (h' : j < t.length) : samCs (l.drop j) (t.drop j) = (samC l[j] t[j] && samCs (l.drop (j + 1)) (t.drop (j + 1))) := by
  rw [List.drop_eq_getElem_cons h, List.drop_eq_getElem_cons h', samCs]
def HaveC (W : World) (a : Option Addr) (c : Nat) (l : List Ca) : Prop := LiesC W a c l ∧ ∀ x ∈ l, x.In W
end Go.Proofs.YtbpemackmadhgaaDoor

/- slices.EqualFunc at cases. -/
namespace Go.Proofs.YtbpemackmadhgaaDoor
open Go.RowKit

theorem rowC_cells {W : World} {a : Option Addr} {l : List Ca} (h : RowIn W a 2 (l.map Ca.cells)) {i : Nat} (hi : i < l.length) :
    ∃ b o, a = some ⟨b, o, none⟩ ∧ ∀ j v, l[i].cells[j]? = some v → W.cell? ⟨b, o + (i * 2 + j), none⟩ = some v := h i l[i].cells (by simp [hi])
set_option maxRecDepth 100000 in
set_option maxHeartbeats 8000000 in
theorem eqC_step (k : Nat) (h1 : ∀ (x y : Ca) (w : World), x.sz ≤ k → x.In w → y.In w → Calls Tryd.prog 64 #[x.val, y.val] w fun e w' => e = .returned (.bool (samC x y)) ∧ Below w.heap.size w w')
    (l t : List Ca) (a a' : Option Addr) (c c' : Nat) (w : World) (hk : csz l ≤ k) (hin : HaveC w a c l) (hin' : HaveC w a' c' t) :
    Calls Tryd.prog 63 #[.slice a l.length c, .slice a' t.length c', .func (.func 64) #[] #[]] w fun e w' => e = .returned (.bool (samCs l t)) ∧ Below w.heap.size w w' := by
  have IH : Hid (∀ (x y : Ca) (w : World), x.sz ≤ k → x.In w → y.In w → Calls Tryd.prog 64 #[x.val, y.val] w fun e w' => e = .returned (.bool (samC x y)) ∧ Below w.heap.size w w') := h1
  have HA : Hid (HaveC w a c l) := hin
  have HB : Hid (HaveC w a' c' t) := hin'
  have hl := hin.1.1
  have hc := hin.1.2.1
  have hl' := hin'.1.1
  have hc' := hin'.1.2.1
  clear h1 hin hin'
  by_cases hle : l.length = t.length
  · have HL : Hid (l.length = t.length) := hle
    rw [← hle] at hl' ⊢
    clear hle
    go_enter Tryd.func63, Tryd.ntmps63
    go_wp2_with fail
    go_loopw [17] (fun t17 wr => ∃ (j : Nat), j ≤ l.length ∧ t17 = .int .i64 j ∧ samCs (l.drop j) (t.drop j) = samCs l t ∧ Below w.heap.size w wr) (fun t17 _ => l.length - (intOf t17).toNat)
    case atStart => exact ⟨0, Nat.zero_le _, rfl, rfl, Below.refl _ w⟩
    case round =>
      obtain ⟨j, hj, rfl, hcnt, hb⟩ := hrel
      have HC : Hid (samCs (l.drop j) (t.drop j) = samCs l t) := hcnt
      clear hcnt
      have hws := hb.size
      by_cases hlt : j < l.length
      · have hlt' : j < t.length := by have := HL.out; omega
        obtain ⟨b, o, rfl, hc1⟩ := rowC_cells (HA.out.1.2.2.2.below hb) hlt
        obtain ⟨b', o', rfl, hc2⟩ := rowC_cells (HB.out.1.2.2.2.below hb) hlt'
        have c0 := hc1 0 _ rfl
        have d0 := hc2 0 _ rfl
        have c1 := hc1 1 _ rfl
        have d1 := hc2 1 _ rfl
        simp only [← Nat.add_assoc, Nat.add_zero] at c0 d0 c1 d1
        clear hc1 hc2
        have hbl : b < wr.heap.size := lt_of_cell c0
        have hbl' : b' < wr.heap.size := lt_of_cell d0
        have hli : (j : Int) < (l.length : Int) := by omega
        have hsy := csz_mem (List.getElem_mem hlt)
        have HZ : Hid (l[j].sz ≤ k) := (by omega : l[j].sz ≤ k)
        clear hsy
        have HY : Hid (l[j].In w) := HA.out.2 l[j] (List.getElem_mem hlt)
        have HY' : Hid (t[j].In w) := HB.out.2 t[j] (List.getElem_mem hlt')
        have HD : Hid (samCs (l.drop j) (t.drop j) = (samC l[j] t[j] && samCs (l.drop (j + 1)) (t.drop (j + 1)))) := samCs_drop hlt hlt'
        generalize l[j] = x at *
        generalize t[j] = y at *
        have hb2 := (hb.alloc hws (.cells #[.int .i64 x.n, .slice x.ba x.body.length x.bc] 71)).alloc (by simp; omega) (.cells #[.int .i64 y.n, .slice y.ba y.body.length y.bc] 71)
        have hs2 := hb2.size
        go_wp2_with fail
        refine (IH.out x y _ HZ.out (HY.out.stay hb2) (HY'.out.stay hb2)).mono ?_
        rintro e w' ⟨rfl, hb'⟩
        have hb4 : Below w.heap.size w w' := hb2.trans (hb'.mono hs2)
        clear c0 d0 c1 d1
        cases ev : samC x y
        · rw [ev] at HD
          go_wp2_with fail
          go_ret
          exact ⟨ret_bool (by rw [← HC.out, HD.out]; rfl), hb4⟩
        · rw [ev] at HD
          go_wp2_with fail
          go_roundw
          case rel => exact ⟨j + 1, by omega, by go_num, by rw [← HC.out, HD.out]; rfl, hb4⟩
          case measure => simp [intOf]; omega
      · go_wp2_with fail
        go_ret
        refine ⟨ret_bool ?_, hb⟩
        rw [← HC.out, List.drop_eq_nil_of_le (by omega), List.drop_eq_nil_of_le (by have := HL.out; omega)]; simp [samCs]
  · have hne : ((l.length : Int) != (t.length : Int)) = true := by simp only [bne_iff_ne]; omega
    go_enter Tryd.func63, Tryd.ntmps63
    go_wp2_with fail
    go_ret
    exact ⟨ret_bool (by rw [samCs_len hle]), Below.refl _ w⟩
end Go.Proofs.YtbpemackmadhgaaDoor

/- slices.EqualFunc at statements. -/
namespace Go.Proofs.YtbpemackmadhgaaDoor
open Go.RowKit

set_option maxRecDepth 100000 in
set_option maxHeartbeats 8000000 in
theorem eqS_step (k : Nat) (h1 : ∀ (x y : St) (w : World), x.sz ≤ k → x.In w → y.In w → Calls Tryd.prog 51 #[x.val, y.val] w fun e w' => e = .returned (.bool (samS x y)) ∧ Below w.heap.size w w')
    (l t : List St) (a a' : Option Addr) (c c' : Nat) (w : World) (hk : ssz l ≤ k) (hin : Have w a c l) (hin' : Have w a' c' t) :
    Calls Tryd.prog 50 #[.slice a l.length c, .slice a' t.length c', .func (.func 51) #[] #[]] w fun e w' => e = .returned (.bool (samSs l t)) ∧ Below w.heap.size w w' := by
  have IH : Hid (∀ (x y : St) (w : World), x.sz ≤ k → x.In w → y.In w → Calls Tryd.prog 51 #[x.val, y.val] w fun e w' => e = .returned (.bool (samS x y)) ∧ Below w.heap.size w w') := h1
  have HA : Hid (Have w a c l) := hin
  have HB : Hid (Have w a' c' t) := hin'
  have hl := hin.1.1
  have hc := hin.1.2.1
  have hl' := hin'.1.1
  have hc' := hin'.1.2.1
  clear h1 hin hin'
  by_cases hle : l.length = t.length
  · have HL : Hid (l.length = t.length) := hle
    rw [← hle] at hl' ⊢
    clear hle
    go_enter Tryd.func50, Tryd.ntmps50
    go_wp2_with fail
    go_loopw [17] (fun t17 wr => ∃ (j : Nat), j ≤ l.length ∧ t17 = .int .i64 j ∧ samSs (l.drop j) (t.drop j) = samSs l t ∧ Below w.heap.size w wr) (fun t17 _ => l.length - (intOf t17).toNat)
    case atStart => exact ⟨0, Nat.zero_le _, rfl, rfl, Below.refl _ w⟩
    case round =>
      obtain ⟨j, hj, rfl, hcnt, hb⟩ := hrel
      have HC : Hid (samSs (l.drop j) (t.drop j) = samSs l t) := hcnt
      clear hcnt
      have hws := hb.size
      by_cases hlt : j < l.length
      · have hlt' : j < t.length := by have := HL.out; omega
        obtain ⟨b, o, rfl, hc1⟩ := rowS_at (HA.out.1.2.2.2.below hb) hlt
        obtain ⟨b', o', rfl, hc2⟩ := rowS_at (HB.out.1.2.2.2.below hb) hlt'
        have c0 := hc1 0 _ rfl
        have d0 := hc2 0 _ rfl
        have c1 := hc1 1 _ rfl
        have d1 := hc2 1 _ rfl
        have c2 := hc1 2 _ rfl
        have d2 := hc2 2 _ rfl
        have c3 := hc1 3 _ rfl
        have d3 := hc2 3 _ rfl
        have c4 := hc1 4 _ rfl
        have d4 := hc2 4 _ rfl
        have c5 := hc1 5 _ rfl
        have d5 := hc2 5 _ rfl
        have c6 := hc1 6 _ rfl
        have d6 := hc2 6 _ rfl
        have c7 := hc1 7 _ rfl
        have d7 := hc2 7 _ rfl
        have c8 := hc1 8 _ rfl
        have d8 := hc2 8 _ rfl
        have c9 := hc1 9 _ rfl
        have d9 := hc2 9 _ rfl
        have c10 := hc1 10 _ rfl
        have d10 := hc2 10 _ rfl
        have c11 := hc1 11 _ rfl
        have d11 := hc2 11 _ rfl
        have c12 := hc1 12 _ rfl
        have d12 := hc2 12 _ rfl
        have c13 := hc1 13 _ rfl
        have d13 := hc2 13 _ rfl
        simp only [← Nat.add_assoc, Nat.add_zero] at c0 d0 c1 d1 c2 d2 c3 d3 c4 d4 c5 d5 c6 d6 c7 d7 c8 d8 c9 d9 c10 d10 c11 d11 c12 d12 c13 d13
        clear hc1 hc2
        have hbl : b < wr.heap.size := lt_of_cell c0
        have hbl' : b' < wr.heap.size := lt_of_cell d0
        have hli : (j : Int) < (l.length : Int) := by omega
        have hsy := ssz_mem (List.getElem_mem hlt)
        have HZ : Hid (l[j].sz ≤ k) := (by omega : l[j].sz ≤ k)
        clear hsy
        have HY : Hid (l[j].In w) := HA.out.2 l[j] (List.getElem_mem hlt)
        have HY' : Hid (t[j].In w) := HB.out.2 t[j] (List.getElem_mem hlt')
        have HD : Hid (samSs (l.drop j) (t.drop j) = (samS l[j] t[j] && samSs (l.drop (j + 1)) (t.drop (j + 1)))) := samSs_drop hlt hlt'
        generalize l[j] = x at *
        generalize t[j] = y at *
        have hb2 := (hb.alloc hws (.cells #[.int .i64 x.kind, .string x.name, .int .i64 x.n, .int .i64 x.a.kind, .int .i64 x.a.n, .string x.a.name, .slice x.a.a x.a.args.length x.a.cap, .int .i64 x.b.kind, .int .i64 x.b.n, .string x.b.name, .slice x.b.a x.b.args.length x.b.cap, .slice x.ba x.body.length x.bc, .slice x.ea x.els.length x.ec, .slice x.ca x.cases.length x.cc] 46)).alloc (by simp; omega) (.cells #[.int .i64 y.kind, .string y.name, .int .i64 y.n, .int .i64 y.a.kind, .int .i64 y.a.n, .string y.a.name, .slice y.a.a y.a.args.length y.a.cap, .int .i64 y.b.kind, .int .i64 y.b.n, .string y.b.name, .slice y.b.a y.b.args.length y.b.cap, .slice y.ba y.body.length y.bc, .slice y.ea y.els.length y.ec, .slice y.ca y.cases.length y.cc] 46)
        have hs2 := hb2.size
        go_wp2_with fail
        refine (IH.out x y _ HZ.out (HY.out.stay hb2) (HY'.out.stay hb2)).mono ?_
        rintro e w' ⟨rfl, hb'⟩
        have hb4 : Below w.heap.size w w' := hb2.trans (hb'.mono hs2)
        clear c0 d0 c1 d1 c2 d2 c3 d3 c4 d4 c5 d5 c6 d6 c7 d7 c8 d8 c9 d9 c10 d10 c11 d11 c12 d12 c13 d13
        cases ev : samS x y
        · rw [ev] at HD
          go_wp2_with fail
          go_ret
          exact ⟨ret_bool (by rw [← HC.out, HD.out]; rfl), hb4⟩
        · rw [ev] at HD
          go_wp2_with fail
          go_roundw
          case rel => exact ⟨j + 1, by omega, by go_num, by rw [← HC.out, HD.out]; rfl, hb4⟩
          case measure => simp [intOf]; omega
      · go_wp2_with fail
        go_ret
        refine ⟨ret_bool ?_, hb⟩
        rw [← HC.out, List.drop_eq_nil_of_le (by omega), List.drop_eq_nil_of_le (by have := HL.out; omega)]; simp [samSs]
  · have hne : ((l.length : Int) != (t.length : Int)) = true := by simp only [bne_iff_ne]; omega
    go_enter Tryd.func50, Tryd.ntmps50
    go_wp2_with fail
    go_ret
    exact ⟨ret_bool (by rw [samSs_len hle]), Below.refl _ w⟩
end Go.Proofs.YtbpemackmadhgaaDoor

/- sameCase, sameStmts and sameStmt at any depth. -/
namespace Go.Proofs.YtbpemackmadhgaaDoor
open Go.RowKit

/-- Two new blocks hold two statements' cells, in every world behind. -/
theorem boxes {w w1 : World} {x y : St} (hb : Below ((w.alloc (.cells #[.int .i64 x.kind, .string x.name, .int .i64 x.n, .int .i64 x.a.kind, .int .i64 x.a.n, .string x.a.name, .slice x.a.a x.a.args.length x.a.cap, .int .i64 x.b.kind, .int .i64 x.b.n, .string x.b.name, .slice x.b.a x.b.args.length x.b.cap, .slice x.ba x.body.length x.bc, .slice x.ea x.els.length x.ec, .slice x.ca x.cases.length x.cc] 46)).alloc (.cells #[.int .i64 y.kind, .string y.name, .int .i64 y.n, .int .i64 y.a.kind, .int .i64 y.a.n, .string y.a.name, .slice y.a.a y.a.args.length y.a.cap, .int .i64 y.b.kind, .int .i64 y.b.n, .string y.b.name, .slice y.b.a y.b.args.length y.b.cap, .slice y.ba y.body.length y.bc, .slice y.ea y.els.length y.ec, .slice y.ca y.cases.length y.cc] 46)).heap.size ((w.alloc (.cells #[.int .i64 x.kind, .string x.name, .int .i64 x.n, .int .i64 x.a.kind, .int .i64 x.a.n, .string x.a.name, .slice x.a.a x.a.args.length x.a.cap, .int .i64 x.b.kind, .int .i64 x.b.n, .string x.b.name, .slice x.b.a x.b.args.length x.b.cap, .slice x.ba x.body.length x.bc, .slice x.ea x.els.length x.ec, .slice x.ca x.cases.length x.cc] 46)).alloc (.cells #[.int .i64 y.kind, .string y.name, .int .i64 y.n, .int .i64 y.a.kind, .int .i64 y.a.n, .string y.a.name, .slice y.a.a y.a.args.length y.a.cap, .int .i64 y.b.kind, .int .i64 y.b.n, .string y.b.name, .slice y.b.a y.b.args.length y.b.cap, .slice y.ba y.body.length y.bc, .slice y.ea y.els.length y.ec, .slice y.ca y.cases.length y.cc] 46)) w1) : BoxS w1 w.heap.size x ∧ BoxS w1 (w.heap.size + 1) y := by
  obtain ⟨h1, h2, _⟩ := two_cells hb
  exact ⟨fun i v h => h1 i v (by simpa [St.cells] using h), fun i v h => h2 i v (by simpa [St.cells] using h)⟩

abbrev StmtOk (k : Nat) : Prop := ∀ (x y : St) (w : World), x.sz ≤ k → x.In w → y.In w → Calls Tryd.prog 51 #[x.val, y.val] w fun e w' => e = .returned (.bool (samS x y)) ∧ Below w.heap.size w w'
abbrev StmtsOk (k : Nat) : Prop := ∀ (l t : List St) (a a' : Option Addr) (c c' : Nat) (w : World), ssz l ≤ k → Have w a c l → Have w a' c' t → Calls Tryd.prog 34 #[.slice a l.length c, .slice a' t.length c'] w fun e w' => e = .returned (.bool (samSs l t)) ∧ Below w.heap.size w w'
abbrev CaseOk (k : Nat) : Prop := ∀ (x y : Ca) (w : World), x.sz ≤ k → x.In w → y.In w → Calls Tryd.prog 64 #[x.val, y.val] w fun e w' => e = .returned (.bool (samC x y)) ∧ Below w.heap.size w w'
abbrev CasesOk (k : Nat) : Prop := ∀ (l t : List Ca) (a a' : Option Addr) (c c' : Nat) (w : World), csz l ≤ k → HaveC w a c l → HaveC w a' c' t → Calls Tryd.prog 63 #[.slice a l.length c, .slice a' t.length c', .func (.func 64) #[] #[]] w fun e w' => e = .returned (.bool (samCs l t)) ∧ Below w.heap.size w w'

set_option maxHeartbeats 1000000 in
theorem sameStmts_step (k : Nat) (h1 : StmtOk k) : StmtsOk k := by
  intro l t a a' c c' w hk ha hb
  have HQ : Hid (Calls Tryd.prog 50 #[.slice a l.length c, .slice a' t.length c', .func (.func 51) #[] #[]] w fun e w' => e = .returned (.bool (samSs l t)) ∧ Below w.heap.size w w') := eqS_step k h1 l t a a' c c' w hk ha hb
  clear h1 ha hb
  go_enter Tryd.func34, Tryd.ntmps34
  go_wp2_with fail
  refine HQ.out.mono ?_
  rintro e w' ⟨rfl, hb'⟩
  go_wp2_with fail
  go_ret
  exact ⟨rfl, hb'⟩

set_option maxRecDepth 100000 in
set_option maxHeartbeats 4000000 in
theorem sameCase_step (k : Nat) (h2 : StmtsOk k) : CaseOk (k + 1) := by
  intro x y w hk hx hy
  have hb1 := ((Below.refl _ w).alloc (Nat.le_refl _) (.cells #[.int .i64 x.n, .slice x.ba x.body.length x.bc] 71)).alloc (by simp) (.cells #[.int .i64 y.n, .slice y.ba y.body.length y.bc] 71)
  have HQ : Hid (∀ w', Below w.heap.size w w' → Calls Tryd.prog 34 #[.slice x.ba x.body.length x.bc, .slice y.ba y.body.length y.bc] w' fun e w'' => e = .returned (.bool (samSs x.body y.body)) ∧ Below w'.heap.size w' w'') := fun w' hb => h2 _ _ _ _ _ _ w' (by have := x.sz_eq; omega) ((Ca.in_iff.1 hx).2.stay hb) ((Ca.in_iff.1 hy).2.stay hb)
  have HE : Hid (samC x y = (x.n == y.n && samSs x.body y.body)) := samC_eq x y
  clear h2 hx hy
  generalize samC x y = res at HE ⊢
  generalize samSs x.body y.body = sub at HE HQ
  unfold Ca.val
  cases e1 : (x.n == y.n)
  · go_enter Tryd.func64, Tryd.ntmps64
    go_wp2_with fail
    go_ret
    exact ⟨ret_bool (by rw [HE.out, e1]; rfl), hb1⟩
  · go_enter Tryd.func64, Tryd.ntmps64
    go_wp2_with fail
    refine (HQ.out _ hb1).mono ?_
    rintro e w' ⟨rfl, hb'⟩
    go_wp2_with fail
    go_ret
    exact ⟨ret_bool (by rw [HE.out, e1]; rfl), hb1.trans (hb'.mono hb1.size)⟩

set_option maxRecDepth 100000 in
set_option maxHeartbeats 8000000 in
theorem sameStmt_step (k : Nat) (h2 : StmtsOk k) (h4 : CasesOk k) : StmtOk (k + 1) := by
  intro x y w hk hx hy
  have hsz := x.sz_eq
  obtain ⟨_, _, _, xa, xb, xl, xe, xc, xs⟩ := St.in_iff.1 hx
  obtain ⟨_, _, _, ya, yb, yl, ye, yc, ys⟩ := St.in_iff.1 hy
  have hb1 := ((Below.refl _ w).alloc (Nat.le_refl _) (.cells #[.int .i64 x.kind, .string x.name, .int .i64 x.n, .int .i64 x.a.kind, .int .i64 x.a.n, .string x.a.name, .slice x.a.a x.a.args.length x.a.cap, .int .i64 x.b.kind, .int .i64 x.b.n, .string x.b.name, .slice x.b.a x.b.args.length x.b.cap, .slice x.ba x.body.length x.bc, .slice x.ea x.els.length x.ec, .slice x.ca x.cases.length x.cc] 46)).alloc (by simp) (.cells #[.int .i64 y.kind, .string y.name, .int .i64 y.n, .int .i64 y.a.kind, .int .i64 y.a.n, .string y.a.name, .slice y.a.a y.a.args.length y.a.cap, .int .i64 y.b.kind, .int .i64 y.b.n, .string y.b.name, .slice y.b.a y.b.args.length y.b.cap, .slice y.ba y.body.length y.bc, .slice y.ea y.els.length y.ec, .slice y.ca y.cases.length y.cc] 46)
  have HA : Hid (∀ w', Below w.heap.size w w' → Calls Tryd.prog 62 #[x.a.val, y.a.val] w' fun e w'' => e = .returned (.bool (samE x.a y.a)) ∧ Below w'.heap.size w' w'') := fun w' hb => sameExpr_any _ _ w' (xa.stay hb) (ya.stay hb)
  have HB : Hid (∀ w', Below w.heap.size w w' → Calls Tryd.prog 62 #[x.b.val, y.b.val] w' fun e w'' => e = .returned (.bool (samE x.b y.b)) ∧ Below w'.heap.size w' w'') := fun w' hb => sameExpr_any _ _ w' (xb.stay hb) (yb.stay hb)
  have HL : Hid (∀ w', Below w.heap.size w w' → Calls Tryd.prog 34 #[.slice x.ba x.body.length x.bc, .slice y.ba y.body.length y.bc] w' fun e w'' => e = .returned (.bool (samSs x.body y.body)) ∧ Below w'.heap.size w' w'') := fun w' hb => h2 _ _ _ _ _ _ w' (by omega) (xl.stay hb) (yl.stay hb)
  have HM : Hid (∀ w', Below w.heap.size w w' → Calls Tryd.prog 34 #[.slice x.ea x.els.length x.ec, .slice y.ea y.els.length y.ec] w' fun e w'' => e = .returned (.bool (samSs x.els y.els)) ∧ Below w'.heap.size w' w'') := fun w' hb => h2 _ _ _ _ _ _ w' (by omega) (xe.stay hb) (ye.stay hb)
  have HC : Hid (∀ w', Below w.heap.size w w' → Calls Tryd.prog 63 #[.slice x.ca x.cases.length x.cc, .slice y.ca y.cases.length y.cc, .func (.func 64) #[] #[]] w' fun e w'' => e = .returned (.bool (samCs x.cases y.cases)) ∧ Below w'.heap.size w' w'') := fun w' hb => h4 _ _ _ _ _ _ w' (by omega) ⟨xc.below hb, fun z hz => (xs z hz).stay hb⟩ ⟨yc.below hb, fun z hz => (ys z hz).stay hb⟩
  have HE : Hid (samS x y = (x.kind == y.kind && (x.name.toList == y.name.toList && (x.n == y.n && (samE x.a y.a && (samE x.b y.b && (samSs x.body y.body && (samSs x.els y.els && samCs x.cases y.cases)))))))) := samS_eq x y
  clear h2 h4 hx hy xa xb xl xe xc xs ya yb yl ye yc ys hsz hk
  generalize samS x y = res at HE ⊢
  generalize samE x.a y.a = ra at HE HA
  generalize samE x.b y.b = rb at HE HB
  generalize samSs x.body y.body = rl at HE HL
  generalize samSs x.els y.els = re at HE HM
  generalize samCs x.cases y.cases = rc at HE HC
  unfold Ex.val at HA HB
  unfold St.val
  cases e1 : (x.kind == y.kind)
  · go_enter Tryd.func51, Tryd.ntmps51
    go_wp2_with fail
    go_ret
    exact ⟨ret_bool (by rw [HE.out, e1]; rfl), hb1⟩
  cases e2 : (x.name.toList == y.name.toList)
  · go_enter Tryd.func51, Tryd.ntmps51
    go_wp2_with fail
    go_ret
    exact ⟨ret_bool (by rw [HE.out, e1, e2]; rfl), hb1⟩
  cases e3 : (x.n == y.n)
  · go_enter Tryd.func51, Tryd.ntmps51
    go_wp2_with fail
    go_ret
    exact ⟨ret_bool (by rw [HE.out, e1, e2, e3]; rfl), hb1⟩
  have HE2 : Hid (res = (ra && (rb && (rl && (re && rc))))) := (by rw [HE.out, e1, e2, e3]; rfl : res = _)
  clear HE
  go_enter Tryd.func51, Tryd.ntmps51
  go_wp2_with fail
  refine (HA.out _ hb1).mono ?_
  rintro e w1 ⟨rfl, k0⟩
  obtain ⟨X0, Y0⟩ := boxes k0
  have g0 : Below w.heap.size w w1 := hb1.trans (k0.mono hb1.size)
  have hs1 : w.heap.size + 1 < w1.heap.size := by have := k0.size; simp at this; omega
  have XH0 : Hid (BoxS w1 w.heap.size x) := X0
  have YH0 : Hid (BoxS w1 (w.heap.size + 1) y) := Y0
  clear X0 Y0 k0
  have c7 := XH0.out 7 _ rfl
  have d7 := YH0.out 7 _ rfl
  have c8 := XH0.out 8 _ rfl
  have d8 := YH0.out 8 _ rfl
  have c9 := XH0.out 9 _ rfl
  have d9 := YH0.out 9 _ rfl
  have c10 := XH0.out 10 _ rfl
  have d10 := YH0.out 10 _ rfl
  cases ra
  · go_wp2_with fail
    go_ret
    exact ⟨ret_bool (by rw [HE2.out]; rfl), g0⟩
  go_wp2_with fail
  refine (HB.out _ g0).mono ?_
  rintro e w2 ⟨rfl, k1⟩
  have X1 := XH0.out.below k1 (by omega)
  have Y1 := YH0.out.below k1 (by omega)
  have g1 : Below w.heap.size w w2 := g0.trans (k1.mono g0.size)
  have hs2 : w.heap.size + 1 < w2.heap.size := by have := k1.size; omega
  clear c7 d7 c8 d8 c9 d9 c10 d10
  have XH1 : Hid (BoxS w2 w.heap.size x) := X1
  have YH1 : Hid (BoxS w2 (w.heap.size + 1) y) := Y1
  clear X1 Y1 k1
  have c11 := XH1.out 11 _ rfl
  have d11 := YH1.out 11 _ rfl
  cases rb
  · go_wp2_with fail
    go_ret
    exact ⟨ret_bool (by rw [HE2.out]; rfl), g1⟩
  go_wp2_with fail
  refine (HL.out _ g1).mono ?_
  rintro e w3 ⟨rfl, k2⟩
  have X2 := XH1.out.below k2 (by omega)
  have Y2 := YH1.out.below k2 (by omega)
  have g2 : Below w.heap.size w w3 := g1.trans (k2.mono g1.size)
  have hs3 : w.heap.size + 1 < w3.heap.size := by have := k2.size; omega
  clear c11 d11
  have XH2 : Hid (BoxS w3 w.heap.size x) := X2
  have YH2 : Hid (BoxS w3 (w.heap.size + 1) y) := Y2
  clear X2 Y2 k2
  have c12 := XH2.out 12 _ rfl
  have d12 := YH2.out 12 _ rfl
  cases rl
  · go_wp2_with fail
    go_ret
    exact ⟨ret_bool (by rw [HE2.out]; rfl), g2⟩
  go_wp2_with fail
  refine (HM.out _ g2).mono ?_
  rintro e w4 ⟨rfl, k3⟩
  have X3 := XH2.out.below k3 (by omega)
  have Y3 := YH2.out.below k3 (by omega)
  have g3 : Below w.heap.size w w4 := g2.trans (k3.mono g2.size)
  have hs4 : w.heap.size + 1 < w4.heap.size := by have := k3.size; omega
  clear c12 d12
  have XH3 : Hid (BoxS w4 w.heap.size x) := X3
  have YH3 : Hid (BoxS w4 (w.heap.size + 1) y) := Y3
  clear X3 Y3 k3
  have c13 := XH3.out 13 _ rfl
  have d13 := YH3.out 13 _ rfl
  cases re
  · go_wp2_with fail
    go_ret
    exact ⟨ret_bool (by rw [HE2.out]; rfl), g3⟩
  go_wp2_with fail
  refine (HC.out _ g3).mono ?_
  rintro e w5 ⟨rfl, k4⟩
  have X4 := XH3.out.below k4 (by omega)
  have Y4 := YH3.out.below k4 (by omega)
  have g4 : Below w.heap.size w w5 := g3.trans (k4.mono g3.size)
  have hs5 : w.heap.size + 1 < w5.heap.size := by have := k4.size; omega
  clear c13 d13
  have XH4 : Hid (BoxS w5 w.heap.size x) := X4
  have YH4 : Hid (BoxS w5 (w.heap.size + 1) y) := Y4
  clear X4 Y4 k4
  go_wp2_with fail
  go_ret
  exact ⟨ret_bool (by rw [HE2.out]; rfl), g4⟩

theorem same_all (k : Nat) : StmtOk k ∧ CaseOk k := by
  induction k with
  | zero => exact ⟨fun x _ _ h => by have := x.sz_eq; omega, fun x _ _ h => by have := x.sz_eq; omega⟩
  | succ k ih =>
    have hS := sameStmts_step k ih.1
    exact ⟨sameStmt_step k hS (fun l t a a' c c' w hk ha hb => eqC_step k ih.2 l t a a' c c' w hk ha hb), sameCase_step k hS⟩
theorem sameStmts_any (l t : List St) (a a' : Option Addr) (c c' : Nat) (w : World) (ha : Have w a c l) (hb : Have w a' c' t) : Calls Tryd.prog 34 #[.slice a l.length c, .slice a' t.length c'] w fun e w' => e = .returned (.bool (samSs l t)) ∧ Below w.heap.size w w' :=
  sameStmts_step _ (same_all _).1 l t a a' c c' w (Nat.le_refl _) ha hb
end Go.Proofs.YtbpemackmadhgaaDoor

/- slices.Equal at thresholds and at parameters; sameFn. -/
namespace Go.Proofs.YtbpemackmadhgaaDoor
open Go.RowKit

def samI : List Int → List Int → Bool
  | [], [] => true
  | x :: r, y :: t => x == y && samI r t
  | [], _ :: _ => false
  | _ :: _, [] => false
theorem samI_len : ∀ {l t : List Int}, l.length ≠ t.length → samI l t = false
  | [], [], h => by simp at h
  | [], _ :: _, _ => by simp [samI]
  | _ :: _, [], _ => by simp [samI]
  | x :: r, y :: t, h => by simp only [samI]; rw [samI_len (by simpa using h)]; simp
theorem samI_drop {l t : List Int} {j : Nat} (h : j < l.length) (h' : j < t.length) : samI (l.drop j) (t.drop j) = (l[j] == t[j] && samI (l.drop (j + 1)) (t.drop (j + 1))) := by
  rw [List.drop_eq_getElem_cons h, List.drop_eq_getElem_cons h', samI]
def samP (x y : Pa) : Bool := x.name.toList == y.name.toList && (x.lo == y.lo && x.hi == y.hi)
def samPs : List Pa → List Pa → Bool
  | [], [] => true
  | x :: r, y :: t => samP x y && samPs r t
  | [], _ :: _ => false
  | _ :: _, [] => false
theorem samPs_len : ∀ {l t : List Pa}, l.length ≠ t.length → samPs l t = false
  | [], [], h => by simp at h
  | [], _ :: _, _ => by simp [samPs]
  | _ :: _, [], _ => by simp [samPs]
  | x :: r, y :: t, h => by simp only [samPs]; rw [samPs_len (by simpa using h)]; simp
theorem samPs_drop {l t : List Pa} {j : Nat} (h : j < l.length) (h' : j < t.length) : samPs (l.drop j) (t.drop j) = (samP l[j] t[j] && samPs (l.drop (j + 1)) (t.drop (j + 1))) := by
  rw [List.drop_eq_getElem_cons h, List.drop_eq_getElem_cons h', samPs]

set_option maxRecDepth 100000 in
set_option maxHeartbeats 4000000 in
theorem equalI_any (l t : List Int) (a a' : Option Addr) (c c' : Nat) (w : World) (hin : Thr w a c l) (hin' : Thr w a' c' t) :
    Calls Tryd.prog 19 #[.slice a l.length c, .slice a' t.length c'] w fun e w' => e = .returned (.bool (samI l t)) ∧ Below w.heap.size w w' := by
  have HA : Hid (Thr w a c l) := hin
  have HB : Hid (Thr w a' c' t) := hin'
  have hl := hin.1
  have hc := hin.2.1
  have hl' := hin'.1
  have hc' := hin'.2.1
  clear hin hin'
  by_cases hle : l.length = t.length
  · have HL : Hid (l.length = t.length) := hle
    rw [← hle] at hl' ⊢
    clear hle
    go_enter Tryd.func19, Tryd.ntmps19
    go_wp2_with fail
    go_loopw [13] (fun t13 wr => ∃ (j nq : Nat), j ≤ l.length ∧ t13 = .int .i64 j ∧ samI (l.drop j) (t.drop j) = samI l t ∧ wr = w.drewN nq) (fun t13 _ => l.length - (intOf t13).toNat)
    case atStart => exact ⟨0, 0, Nat.zero_le _, rfl, rfl, rfl⟩
    case round =>
      obtain ⟨j, nq, hj, rfl, hcnt, rfl⟩ := hrel
      have HC : Hid (samI (l.drop j) (t.drop j) = samI l t) := hcnt
      clear hcnt
      by_cases hlt : j < l.length
      · have hlt' : j < t.length := by have := HL.out; omega
        obtain ⟨b, o, rfl, c0⟩ := rowW_at HA.out.2.2 hlt
        obtain ⟨b', o', rfl, d0⟩ := rowW_at HB.out.2.2 hlt'
        have hli : (j : Int) < (l.length : Int) := by omega
        have HD : Hid (samI (l.drop j) (t.drop j) = (l[j] == t[j] && samI (l.drop (j + 1)) (t.drop (j + 1)))) := samI_drop hlt hlt'
        generalize l[j] = x at *
        generalize t[j] = y at *
        clear hlt'
        go_wp2_with fail
        go_quiet (fail)
        cases ev : (x == y)
        · have ev' : (x != y) = true := by simp [bne, ev]
          rw [ev] at HD
          go_wp2_with fail
          go_ret
          exact ⟨ret_bool (by rw [← HC.out, HD.out]; rfl), ((Below.refl _ w).drewN _).drewN _⟩
        · have ev' : (x != y) = false := by simp [bne, ev]
          rw [ev] at HD
          go_wp2_with fail
          go_roundw
          case rel => exact ⟨j + 1, _, by omega, by go_num, by rw [← HC.out, HD.out]; rfl, rfl⟩
          case measure => simp [intOf]; omega
      · go_wp2_with fail
        go_ret
        refine ⟨ret_bool ?_, (Below.refl _ w).drewN _⟩
        rw [← HC.out, List.drop_eq_nil_of_le (by omega), List.drop_eq_nil_of_le (by have := HL.out; omega)]; rfl
  · have hne : ((l.length : Int) != (t.length : Int)) = true := by simp only [bne_iff_ne]; omega
    go_enter Tryd.func19, Tryd.ntmps19
    go_wp2_with fail
    go_ret
    exact ⟨ret_bool (by rw [samI_len hle]), Below.refl _ w⟩

theorem equalIn_pa (x y : Pa) (w : World) : (Op.equalIn 10000 41 (.agg #[.string x.name, .int .i64 x.lo, .int .i64 x.hi]) (.agg #[.string y.name, .int .i64 y.lo, .int .i64 y.hi])).run Tryd.prog w = .ok (samP x y) w := by
  have u2 := Tryd.underlying2
  have a2 := Tryd.isAgg2
  have z2 := Tryd.sizeOf2
  have u9 := Tryd.underlying9
  have a9 := Tryd.isAgg9
  have z9 := Tryd.sizeOf9
  have hS : Tryd.prog.underlying 41 = some (.struct (Tryd.prog.fieldsOf 41)) := by kernel_rfl
  have hp : Tryd.prog.stoodInHeld 41 = false := by kernel_rfl
  rw [show (10000 : Nat) = 9999 + 1 from rfl, run_equalIn_agg w 9999 41 _ _ hS hp]
  simp only [Program.fieldsOf, Tryd.underlying41]
  go_simp
  unfold samP
  by_cases h1 : x.name.toList = y.name.toList <;> by_cases h2 : x.lo = y.lo <;> by_cases h3 : x.hi = y.hi <;> simp [h1, h2, h3]

def HaveP (W : World) (a : Option Addr) (c : Nat) (l : List Pa) : Prop := l.length ≤ c ∧ c * 32 ≤ 140737488351232 ∧ RowIn W a 3 (l.map Pa.cells)
set_option maxRecDepth 100000 in
set_option maxHeartbeats 4000000 in
theorem equalP_any (l t : List Pa) (a a' : Option Addr) (c c' : Nat) (w : World) (hin : HaveP w a c l) (hin' : HaveP w a' c' t) :
    Calls Tryd.prog 33 #[.slice a l.length c, .slice a' t.length c'] w fun e w' => e = .returned (.bool (samPs l t)) ∧ Below w.heap.size w w' := by
  have HA : Hid (HaveP w a c l) := hin
  have HB : Hid (HaveP w a' c' t) := hin'
  have hl := hin.1
  have hc := hin.2.1
  have hl' := hin'.1
  have hc' := hin'.2.1
  clear hin hin'
  by_cases hle : l.length = t.length
  · have HL : Hid (l.length = t.length) := hle
    rw [← hle] at hl' ⊢
    clear hle
    go_enter Tryd.func33, Tryd.ntmps33
    go_wp2_with fail
    go_loopw [13] (fun t13 wr => ∃ (j nq : Nat), j ≤ l.length ∧ t13 = .int .i64 j ∧ samPs (l.drop j) (t.drop j) = samPs l t ∧ wr = w.drewN nq) (fun t13 _ => l.length - (intOf t13).toNat)
    case atStart => exact ⟨0, 0, Nat.zero_le _, rfl, rfl, rfl⟩
    case round =>
      obtain ⟨j, nq, hj, rfl, hcnt, rfl⟩ := hrel
      have HC : Hid (samPs (l.drop j) (t.drop j) = samPs l t) := hcnt
      clear hcnt
      by_cases hlt : j < l.length
      · have hlt' : j < t.length := by have := HL.out; omega
        obtain ⟨b, o, rfl, c0, c1, c2⟩ := rowP_at HA.out.2.2 hlt
        obtain ⟨b', o', rfl, d0, d1, d2⟩ := rowP_at HB.out.2.2 hlt'
        have hli : (j : Int) < (l.length : Int) := by omega
        have HD : Hid (samPs (l.drop j) (t.drop j) = (samP l[j] t[j] && samPs (l.drop (j + 1)) (t.drop (j + 1)))) := samPs_drop hlt hlt'
        generalize l[j] = x at *
        generalize t[j] = y at *
        clear hlt'
        go_wp2_with fail
        have hq := fun w => equalIn_pa x y w
        have hg : ∀ (w : World) (op : BinOp) (a b : Operand) (xs ys : Array Value), (eqGuard op 41 a b (.agg xs) (.agg ys)).run Tryd.prog w = .ok () w := fun w op a b xs ys => run_eqGuard_agg w op 41 a b xs ys (by kernel_rfl)
        go_quiet (fail)
        clear hq hg
        cases ev : samP x y
        · rw [ev] at HD
          go_wp2_with fail
          go_ret
          exact ⟨ret_bool (by rw [← HC.out, HD.out]; rfl), ((Below.refl _ w).drewN _).drewN _⟩
        · rw [ev] at HD
          go_wp2_with fail
          go_roundw
          case rel => exact ⟨j + 1, _, by omega, by go_num, by rw [← HC.out, HD.out]; rfl, rfl⟩
          case measure => simp [intOf]; omega
      · go_wp2_with fail
        go_ret
        refine ⟨ret_bool ?_, (Below.refl _ w).drewN _⟩
        rw [← HC.out, List.drop_eq_nil_of_le (by omega), List.drop_eq_nil_of_le (by have := HL.out; omega)]; rfl
  · have hne : ((l.length : Int) != (t.length : Int)) = true := by simp only [bne_iff_ne]; omega
    go_enter Tryd.func33, Tryd.ntmps33
    go_wp2_with fail
    go_ret
    exact ⟨ret_bool (by rw [samPs_len hle]), Below.refl _ w⟩

def samF (x y : Fu) : Bool := x.name.toList == y.name.toList && (samPs x.params y.params && samSs x.body y.body)
def samFs : List Fu → List Fu → Bool
  | [], [] => true
  | x :: r, y :: t => samF x y && samFs r t
  | [], _ :: _ => false
  | _ :: _, [] => false
theorem samFs_len : ∀ {l t : List Fu}, l.length ≠ t.length → samFs l t = false
  | [], [], h => by simp at h
  | [], _ :: _, _ => by simp [samFs]
  | _ :: _, [], _ => by simp [samFs]
  | x :: r, y :: t, h => by simp only [samFs]; rw [samFs_len (by simpa using h)]; simp
theorem samFs_drop {l t : List Fu} {j : Nat} (h : j < l.length) (h' : j < t.length) : samFs (l.drop j) (t.drop j) = (samF l[j] t[j] && samFs (l.drop (j + 1)) (t.drop (j + 1))) := by
  rw [List.drop_eq_getElem_cons h, List.drop_eq_getElem_cons h', samFs]

set_option maxRecDepth 100000 in
set_option maxHeartbeats 4000000 in
theorem sameFn_any (x y : Fu) (w : World) (hx : x.In w) (hy : y.In w) : Calls Tryd.prog 21 #[x.val, y.val] w fun e w' => e = .returned (.bool (samF x y)) ∧ Below w.heap.size w w' := by
  have hb1 := ((Below.refl _ w).alloc (Nat.le_refl _) (.cells #[.string x.name, .slice x.pa x.params.length x.pc, .slice x.ba x.body.length x.bc] 48)).alloc (by simp) (.cells #[.string y.name, .slice y.pa y.params.length y.pc, .slice y.ba y.body.length y.bc] 48)
  have HP : Hid (∀ w', Below w.heap.size w w' → Calls Tryd.prog 33 #[.slice x.pa x.params.length x.pc, .slice y.pa y.params.length y.pc] w' fun e w'' => e = .returned (.bool (samPs x.params y.params)) ∧ Below w'.heap.size w' w'') := fun w' hb => equalP_any _ _ _ _ _ _ w' ⟨hx.2.1, hx.2.2.1, hx.2.2.2.2.1.below hb⟩ ⟨hy.2.1, hy.2.2.1, hy.2.2.2.2.1.below hb⟩
  have HS : Hid (∀ w', Below w.heap.size w w' → Calls Tryd.prog 34 #[.slice x.ba x.body.length x.bc, .slice y.ba y.body.length y.bc] w' fun e w'' => e = .returned (.bool (samSs x.body y.body)) ∧ Below w'.heap.size w' w'') := fun w' hb => sameStmts_any _ _ _ _ _ _ w' (hx.2.2.2.2.2.2.stay hb) (hy.2.2.2.2.2.2.stay hb)
  have HE : Hid (samF x y = (x.name.toList == y.name.toList && (samPs x.params y.params && samSs x.body y.body))) := (rfl : samF x y = _)
  clear hx hy
  generalize samF x y = res at HE ⊢
  generalize samPs x.params y.params = rp at HE HP
  generalize samSs x.body y.body = rs at HE HS
  unfold Fu.val
  cases e1 : (x.name.toList == y.name.toList)
  · go_enter Tryd.func21, Tryd.ntmps21
    go_wp2_with fail
    go_ret
    exact ⟨ret_bool (by rw [HE.out, e1]; rfl), hb1⟩
  · go_enter Tryd.func21, Tryd.ntmps21
    go_wp2_with fail
    refine (HP.out _ hb1).mono ?_
    rintro e w1 ⟨rfl, k0⟩
    obtain ⟨hX, hY, _⟩ := two_cells k0
    have c2 := hX 2 _ rfl
    have d2 := hY 2 _ rfl
    have hb2 : Below w.heap.size w w1 := hb1.trans (k0.mono hb1.size)
    clear hX hY k0 hb1
    cases rp
    · go_wp2_with fail
      go_ret
      exact ⟨ret_bool (by rw [HE.out, e1]; rfl), hb2⟩
    · go_wp2_with fail
      refine (HS.out _ hb2).mono ?_
      rintro e w2 ⟨rfl, k1⟩
      go_wp2_with fail
      go_ret
      exact ⟨ret_bool (by rw [HE.out, e1]; rfl), hb2.trans (k1.mono hb2.size)⟩
end Go.Proofs.YtbpemackmadhgaaDoor

/- slices.EqualFunc at functions. -/
namespace Go.Proofs.YtbpemackmadhgaaDoor
open Go.RowKit

theorem rowF_cells {W : World} {a : Option Addr} {l : List Fu} (h : RowIn W a 3 (l.map Fu.cells)) {i : Nat} (hi : i < l.length) :
    ∃ b o, a = some ⟨b, o, none⟩ ∧ ∀ j v, l[i].cells[j]? = some v → W.cell? ⟨b, o + (i * 3 + j), none⟩ = some v := h i l[i].cells (by simp [hi])
def HaveF (W : World) (a : Option Addr) (c : Nat) (l : List Fu) : Prop := (l.length ≤ c ∧ c * 64 ≤ 140737488351232 ∧ RowIn W a 3 (l.map Fu.cells)) ∧ ∀ x ∈ l, x.In W
set_option maxRecDepth 100000 in
set_option maxHeartbeats 8000000 in
theorem eqF_step (h1 : ∀ (x y : Fu) (w : World), x.In w → y.In w → Calls Tryd.prog 21 #[x.val, y.val] w fun e w' => e = .returned (.bool (samF x y)) ∧ Below w.heap.size w w')
    (l t : List Fu) (a a' : Option Addr) (c c' : Nat) (w : World) (hin : HaveF w a c l) (hin' : HaveF w a' c' t) :
    Calls Tryd.prog 20 #[.slice a l.length c, .slice a' t.length c', .func (.func 21) #[] #[]] w fun e w' => e = .returned (.bool (samFs l t)) ∧ Below w.heap.size w w' := by
  have IH : Hid (∀ (x y : Fu) (w : World), x.In w → y.In w → Calls Tryd.prog 21 #[x.val, y.val] w fun e w' => e = .returned (.bool (samF x y)) ∧ Below w.heap.size w w') := h1
  have HA : Hid (HaveF w a c l) := hin
  have HB : Hid (HaveF w a' c' t) := hin'
  have hl := hin.1.1
  have hc := hin.1.2.1
  have hl' := hin'.1.1
  have hc' := hin'.1.2.1
  clear h1 hin hin'
  by_cases hle : l.length = t.length
  · have HL : Hid (l.length = t.length) := hle
    rw [← hle] at hl' ⊢
    clear hle
    go_enter Tryd.func20, Tryd.ntmps20
    go_wp2_with fail
    go_loopw [17] (fun t17 wr => ∃ (j : Nat), j ≤ l.length ∧ t17 = .int .i64 j ∧ samFs (l.drop j) (t.drop j) = samFs l t ∧ Below w.heap.size w wr) (fun t17 _ => l.length - (intOf t17).toNat)
    case atStart => exact ⟨0, Nat.zero_le _, rfl, rfl, Below.refl _ w⟩
    case round =>
      obtain ⟨j, hj, rfl, hcnt, hb⟩ := hrel
      have HC : Hid (samFs (l.drop j) (t.drop j) = samFs l t) := hcnt
      clear hcnt
      have hws := hb.size
      by_cases hlt : j < l.length
      · have hlt' : j < t.length := by have := HL.out; omega
        obtain ⟨b, o, rfl, hc1⟩ := rowF_cells (HA.out.1.2.2.below hb) hlt
        obtain ⟨b', o', rfl, hc2⟩ := rowF_cells (HB.out.1.2.2.below hb) hlt'
        have c0 := hc1 0 _ rfl
        have d0 := hc2 0 _ rfl
        have c1 := hc1 1 _ rfl
        have d1 := hc2 1 _ rfl
        have c2 := hc1 2 _ rfl
        have d2 := hc2 2 _ rfl
        simp only [← Nat.add_assoc, Nat.add_zero] at c0 d0 c1 d1 c2 d2
        clear hc1 hc2
        have hbl : b < wr.heap.size := lt_of_cell c0
        have hbl' : b' < wr.heap.size := lt_of_cell d0
        have hli : (j : Int) < (l.length : Int) := by omega
        have HY : Hid (l[j].In w) := HA.out.2 l[j] (List.getElem_mem hlt)
        have HY' : Hid (t[j].In w) := HB.out.2 t[j] (List.getElem_mem hlt')
        have HD : Hid (samFs (l.drop j) (t.drop j) = (samF l[j] t[j] && samFs (l.drop (j + 1)) (t.drop (j + 1)))) := samFs_drop hlt hlt'
        generalize l[j] = x at *
        generalize t[j] = y at *
        have hb2 := (hb.alloc hws (.cells #[.string x.name, .slice x.pa x.params.length x.pc, .slice x.ba x.body.length x.bc] 48)).alloc (by simp; omega) (.cells #[.string y.name, .slice y.pa y.params.length y.pc, .slice y.ba y.body.length y.bc] 48)
        have hs2 := hb2.size
        go_wp2_with fail
        refine (IH.out x y _ (HY.out.stay hb2) (HY'.out.stay hb2)).mono ?_
        rintro e w' ⟨rfl, hb'⟩
        have hb4 : Below w.heap.size w w' := hb2.trans (hb'.mono hs2)
        clear c0 d0 c1 d1 c2 d2
        cases ev : samF x y
        · rw [ev] at HD
          go_wp2_with fail
          go_ret
          exact ⟨ret_bool (by rw [← HC.out, HD.out]; rfl), hb4⟩
        · rw [ev] at HD
          go_wp2_with fail
          go_roundw
          case rel => exact ⟨j + 1, by omega, by go_num, by rw [← HC.out, HD.out]; rfl, hb4⟩
          case measure => simp [intOf]; omega
      · go_wp2_with fail
        go_ret
        refine ⟨ret_bool ?_, hb⟩
        rw [← HC.out, List.drop_eq_nil_of_le (by omega), List.drop_eq_nil_of_le (by have := HL.out; omega)]; simp [samFs]
  · have hne : ((l.length : Int) != (t.length : Int)) = true := by simp only [bne_iff_ne]; omega
    go_enter Tryd.func20, Tryd.ntmps20
    go_wp2_with fail
    go_ret
    exact ⟨ret_bool (by rw [samFs_len hle]), Below.refl _ w⟩
end Go.Proofs.YtbpemackmadhgaaDoor

/- tree.Same: are two programs the same? -/
namespace Go.Proofs.YtbpemackmadhgaaDoor
open Go.RowKit

def samPr (p q : Pr) : Bool := samI p.widen q.widen && samFs p.funcs q.funcs
theorem Pr.In.thr {w : World} {p : Pr} (h : p.In w) : Thr w p.wa p.wc p.widen := ⟨h.1, h.2.1, h.2.2.2.1⟩
theorem Pr.In.haveF {w : World} {p : Pr} (h : p.In w) : HaveF w p.fa p.fc p.funcs := by
  obtain ⟨_, _, _, _, _, h6, h7, _, h9, h10⟩ := h
  exact ⟨⟨h6, h7, h9⟩, h10⟩
set_option maxRecDepth 100000 in
set_option maxHeartbeats 4000000 in
theorem same_any (p q : Pr) (w : World) (hx : p.In w) (hy : q.In w) : Calls Tryd.prog 12 #[p.val, q.val] w fun e w' => e = .returned (.bool (samPr p q)) ∧ Below w.heap.size w w' := by
  have hb1 := ((Below.refl _ w).alloc (Nat.le_refl _) (.cells #[.slice p.wa p.widen.length p.wc, .slice p.fa p.funcs.length p.fc] 26)).alloc (by simp) (.cells #[.slice q.wa q.widen.length q.wc, .slice q.fa q.funcs.length q.fc] 26)
  have HP : Hid (∀ w', Below w.heap.size w w' → Calls Tryd.prog 19 #[.slice p.wa p.widen.length p.wc, .slice q.wa q.widen.length q.wc] w' fun e w'' => e = .returned (.bool (samI p.widen q.widen)) ∧ Below w'.heap.size w' w'') := fun w' hb => equalI_any _ _ _ _ _ _ w' (hx.stay hb).thr (hy.stay hb).thr
  have HS : Hid (∀ w', Below w.heap.size w w' → Calls Tryd.prog 20 #[.slice p.fa p.funcs.length p.fc, .slice q.fa q.funcs.length q.fc, .func (.func 21) #[] #[]] w' fun e w'' => e = .returned (.bool (samFs p.funcs q.funcs)) ∧ Below w'.heap.size w' w'') := fun w' hb => eqF_step (fun x y w hx hy => sameFn_any x y w hx hy) _ _ _ _ _ _ w' (hx.stay hb).haveF (hy.stay hb).haveF
  have HE : Hid (samPr p q = (samI p.widen q.widen && samFs p.funcs q.funcs)) := (rfl : samPr p q = _)
  clear hx hy
  generalize samPr p q = res at HE ⊢
  generalize samI p.widen q.widen = ri at HE HP
  generalize samFs p.funcs q.funcs = rf at HE HS
  unfold Pr.val
  go_enter Tryd.func12, Tryd.ntmps12
  go_wp2_with fail
  refine (HP.out _ hb1).mono ?_
  rintro e w1 ⟨rfl, k0⟩
  obtain ⟨hX, hY, _⟩ := two_cells k0
  have c1 := hX 1 _ rfl
  have d1 := hY 1 _ rfl
  have hb2 : Below w.heap.size w w1 := hb1.trans (k0.mono hb1.size)
  clear hX hY k0 hb1
  cases ri
  · go_wp2_with fail
    go_ret
    exact ⟨ret_bool (by rw [HE.out]; rfl), hb2⟩
  · go_wp2_with fail
    refine (HS.out _ hb2).mono ?_
    rintro e w2 ⟨rfl, k1⟩
    go_wp2_with fail
    go_ret
    exact ⟨ret_bool (by rw [HE.out]; rfl), hb2.trans (k1.mono hb2.size)⟩
end Go.Proofs.YtbpemackmadhgaaDoor
