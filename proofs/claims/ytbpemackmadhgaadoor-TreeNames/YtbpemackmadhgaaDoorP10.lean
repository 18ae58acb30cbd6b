/- expr at numbers, names and calls; expr at every expression that has a form. -/
import Derived.Test.YtbpemackmadhgaaDoorP8
import Derived.Test.YtbpemackmadhgaaDoorP9
namespace Go.Proofs.YtbpemackmadhgaaDoor
open Go.RowKit Go.Sort

theorem commas_of {w : World} {v : Value} {xs : List ByteArray} {t : List UInt8} (h : Strs w v xs) (ht : comB (xs.map (·.data.toList)) = t) (hn : xs.length ≤ 1000000) (hlen : t.length ≤ 140737488355328) :
    Calls Tryd.prog 37 #[v] w fun e w' => e = .returned (sB t) ∧ Below w.heap.size w w' := by
  obtain ⟨a, cap, rfl, hcap, hc⟩ := h
  have := commas_any xs a cap w hc hn hcap (by rw [ht]; exact hlen)
  rwa [ht] at this
theorem len_szL : ∀ l : List Ex, l.length ≤ szL l
  | [] => by simp
  | x :: r => by rw [szL, List.length_cons]; have := x.sz_pos; have := len_szL r; omega
theorem comB_map (l : List Ex) : comB ((l.map fun x => (⟨(txE x).toArray⟩ : ByteArray)).map (·.data.toList)) = comB (l.map txE) := by
  rw [List.map_map]; rfl

set_option maxRecDepth 100000 in
set_option maxHeartbeats 4000000 in
theorem expr1 (n : Int) (s : ByteArray) (a : Option Addr) (c : Nat) (l : List Ex) (w : World) (hI : I64 n) (ht : Tabs w) (hnt : NumT w) :
    Calls Tryd.prog 68 #[(Ex.mk 1 n s a c l).val] w fun e w' => e = .returned (sB (Lib.itoa n)) ∧ Below w.heap.size w w' := by
  have HN : Hid (∀ w', Below w.heap.size w w' → Calls Tryd.prog 39 #[.int .i64 n] w' fun e w'' => e = .returned (sB (Lib.itoa n)) ∧ Below w'.heap.size w' w'') := fun w' hb => number_any n w' hI (hnt.stay hb)
  obtain ⟨t0, t1, t2, t3⟩ := ht.2 1 (by omega)
  have h1w : 1 < w.heap.size := lt_of_cell t0
  have hb0 := (exW_facts 1 n s (.slice a l.length c) (formE 1) w).1
  unfold exW at hb0
  clear ht hnt
  unfold Ex.val
  simp only [Ex.kind, Ex.n, Ex.name, Ex.a, Ex.cap, Ex.args]
  go_enter Tryd.func68, Tryd.ntmps68
  go_wp2_with fail
  refine (HN.out _ hb0).mono ?_
  rintro e w1 ⟨rfl, hb1⟩
  go_wp2_with fail
  go_ret
  exact ⟨rfl, Below.on hb0 hb1⟩

set_option maxRecDepth 100000 in
set_option maxHeartbeats 4000000 in
theorem expr2 (n : Int) (s : ByteArray) (a : Option Addr) (c : Nat) (l : List Ex) (w : World) (ht : Tabs w) :
    Calls Tryd.prog 68 #[(Ex.mk 2 n s a c l).val] w fun e w' => e = .returned (.string s) ∧ Below w.heap.size w w' := by
  obtain ⟨t0, t1, t2, t3⟩ := ht.2 2 (by omega)
  have h1w : 1 < w.heap.size := lt_of_cell t0
  have hb0 := (exW_facts 2 n s (.slice a l.length c) (formE 2) w).1
  unfold exW at hb0
  clear ht
  unfold Ex.val
  simp only [Ex.kind, Ex.n, Ex.name, Ex.a, Ex.cap, Ex.args]
  go_enter Tryd.func68, Tryd.ntmps68
  go_wp2_with fail
  go_ret
  exact ⟨rfl, hb0⟩

set_option maxRecDepth 100000 in
set_option maxHeartbeats 8000000 in
theorem expr4 (k : Nat) (h1 : ExprOk k) (n : Int) (s : ByteArray) (a : Option Addr) (c : Nat) (l : List Ex) (w : World) (hk : (Ex.mk 4 n s a c l).sz ≤ k + 1) (hin : (Ex.mk 4 n s a c l).In w) (ht : Tabs w) (hnt : NumT w) (hok : OkE (Ex.mk 4 n s a c l)) (hsz : (Ex.mk 4 n s a c l).sz ≤ 1000000) :
    Calls Tryd.prog 68 #[(Ex.mk 4 n s a c l).val] w fun e w' => e = .returned (sB (txE (Ex.mk 4 n s a c l))) ∧ Below w.heap.size w w' := by
  have hlen := txE_len (w := w) _ _ (Nat.le_refl _) hin hok
  have hz := (Ex.mk 4 n s a c l).sz_args
  simp only [Ex.args] at hz
  have hin' := Ex.in_iff.1 hin
  simp only [Ex.kind, Ex.n, Ex.name, Ex.a, Ex.cap, Ex.args] at hin'
  obtain ⟨_, _, _, _, _, _, hrow, hsub⟩ := hin'
  have hoks := hok.parts.2
  simp only [Ex.args] at hoks
  have hll := len_szL l
  have HC : Hid (cat [s, ⟨#[40]⟩, ⟨(comB (l.map txE)).toArray⟩, ⟨#[41]⟩] = txE (Ex.mk 4 n s a c l)) := tx4 n s a c l
  have HLEN : Hid ((cat [s, ⟨#[40]⟩, ⟨(comB (l.map txE)).toArray⟩, ⟨#[41]⟩]).length ≤ 140737488355328) := by show _ ≤ _; rw [HC.out]; omega
  have HLE2 : Hid ((comB (l.map txE)).length ≤ 140737488355328) := by show _ ≤ _; have := HLEN.out; simp [cat] at this; omega
  have HEA : Hid (∀ w', Below w.heap.size w w' → Calls Tryd.prog 87 #[.slice a l.length c, .func (.func 68) #[] #[]] w' fun e w'' => ∃ va vc, e = .returned (.slice va l.length vc) ∧ Hid (Strs w'' (.slice va l.length vc) (l.map fun x => ⟨(txE x).toArray⟩)) ∧ Below w'.heap.size w' w'') := fun w' hb =>
    (eachExpr_any l a c w' (by omega) (hrow.below hb) (fun x hx w'' hb' => h1 x w'' (by have := szL_mem hx; omega) (((hsub x hx).stay hb).stay hb') ((ht.stay hb).stay hb') ((hnt.stay hb).stay hb') (hoks x hx) (by have := szL_mem hx; omega))).mono fun e w'' ⟨v, he, hs, hb'⟩ => by
      obtain ⟨va, vc, hv, hcap, hcc⟩ := hs
      rw [List.length_map] at hv hcap
      subst hv
      exact ⟨va, vc, he, ⟨va, vc, by rw [List.length_map], by rw [List.length_map]; exact hcap, hcc⟩, hb'⟩
  have HLM : Hid ((l.map fun x => (⟨(txE x).toArray⟩ : ByteArray)).length ≤ 1000000) := by show _ ≤ _; rw [List.length_map]; omega
  obtain ⟨t0, t1, t2, t3⟩ := ht.2 4 (by omega)
  have h1w : 1 < w.heap.size := lt_of_cell t0
  clear h1 hin ht hnt hok hrow hsub hoks
  unfold Ex.val
  simp only [Ex.kind, Ex.n, Ex.name, Ex.a, Ex.cap, Ex.args]
  go_enter Tryd.func68, Tryd.ntmps68
  go_wp2_with fail
  obtain ⟨hb0, x0, x1, x2, x3, f2, f3⟩ := exW_facts 4 n s (.slice a l.length c) (formE 4) w
  obtain ⟨W0, hW0⟩ : ∃ W0, exW 4 n s (.slice a l.length c) (formE 4) w = W0 := ⟨_, rfl⟩
  rw [hW0] at hb0 x0 x1 x2 x3 f2 f3
  unfold exW at hW0
  rw [hW0]
  have HB0 : Hid (Below w.heap.size w W0) := hb0
  have x2 := seen x2
  have x3 := seen x3
  clear hW0 hb0 x0 x1 f2 f3 t0 t1 t2 t3 h1w hk hsz hlen hz hll
  go_region_held3 (fun w' => Below W0.heap.size W0 w') (first | exact Below.drew (Below.refl _ _) | exact Below.on (by assumption) (by assumption) | exact Below.one (by assumption) _)
    (first
      | (go_at_call 87; refine (HEA.out _ (Below.on HB0.out (by assumption))).mono ?_; rintro e w' ⟨va, vc, rfl, hs, hb⟩)
      | (go_at_call 37; refine (commas_of hs.out (comB_map l) HLM.out HLE2.out).mono ?_; rintro e w' ⟨rfl, hb⟩)
      | (go_at_call 56; refine (join_new [s, ⟨#[40]⟩, ⟨(comB (l.map txE)).toArray⟩, ⟨#[41]⟩] _ (Nat.le_of_ble_eq_true rfl) HLEN.out).mono ?_; rintro e w' ⟨rfl, hb⟩))
  all_goals go_wp2_with fail
  all_goals go_ret
  all_goals exact ⟨ret_str HC.out, Below.on HB0.out (by assumption)⟩

theorem expr_step (k : Nat) (h1 : ExprOk k) : ExprOk (k + 1) := by
  have h2 : WithinOk k := fun x least w hk hin ht hnt hok hsz => within_step k h1 x least w hk hin ht hnt hok hsz
  intro x w hk hin ht hnt hok hsz
  obtain ⟨kn, hkn, hk1, hk2, hlen, _, _⟩ := selfE_zero hok.parts.1
  obtain ⟨kd, n, s, a, c, l⟩ := x
  simp only [Ex.kind, Ex.args] at hkn hlen
  subst hkn
  have hI : I64 n := (Ex.in_iff.1 hin).2.1
  by_cases e1 : kn = 1
  · subst e1
    have : txE (Ex.mk ((1 : Nat) : Int) n s a c l) = Lib.itoa n := by rw [txE_eq]; rfl
    rw [this]
    exact expr1 n s a c l w hI ht hnt
  by_cases e2 : kn = 2
  · subst e2
    have : txE (Ex.mk ((2 : Nat) : Int) n s a c l) = s.data.toList := by rw [txE_eq]; rfl
    rw [this]
    exact expr2 n s a c l w ht
  by_cases e3 : kn = 3
  · subst e3
    match l, hlen (by decide) with
    | [y], _ => exact expr3 k h1 n s a c y w hk hin ht hnt hok hsz
    | [], h => simp [formE] at h
    | _ :: _ :: _, h => simp [formE] at h; omega
  by_cases e4 : kn = 4
  · subst e4; exact expr4 k h1 n s a c l w hk hin ht hnt hok hsz
  by_cases e5 : kn = 5
  · subst e5
    match l, hlen (by decide) with
    | [y], _ => exact expr5 k h2 n s a c y w hk hin ht hnt hok hsz
    | [], h => simp [formE] at h
    | _ :: _ :: _, h => simp [formE] at h; omega
  by_cases e6 : kn = 6
  · subst e6
    match l, hlen (by decide) with
    | [y], _ => exact expr6 k h2 n s a c y w hk hin ht hnt hok hsz
    | [], h => simp [formE] at h
    | _ :: _ :: _, h => simp [formE] at h; omega
  by_cases e20 : kn = 20
  · subst e20
    match l, hlen (by decide) with
    | [x, y, z], _ => exact expr20 k h1 h2 n s a c x y z w hk hin ht hnt hok hsz
    | [], h => simp [formE] at h
    | [_], h => simp [formE] at h
    | [_, _], h => simp [formE] at h
    | _ :: _ :: _ :: _ :: _, h => simp [formE] at h; omega
  · have ha := args_two kn (by omega) hk2 e20
    rw [ha] at hlen
    match l, hlen (by decide) with
    | [x, y], _ => exact exprTwo k h2 kn (by omega) (by omega) n s a c x y w hk hin ht hnt hok hsz
    | [], h => simp at h
    | [_], h => simp at h
    | _ :: _ :: _ :: _, h => simp at h; omega
theorem expr_all (k : Nat) : ExprOk k := by
  induction k with
  | zero => intro x w h; have := x.sz_pos; omega
  | succ k ih => exact expr_step k ih
theorem expr_any (x : Ex) (w : World) (hin : x.In w) (ht : Tabs w) (hnt : NumT w) (hok : OkE x) (hsz : x.sz ≤ 1000000) : Calls Tryd.prog 68 #[x.val] w fun e w' => e = .returned (sB (txE x)) ∧ Below w.heap.size w w' := expr_all _ x w (Nat.le_refl _) hin ht hnt hok hsz
end Go.Proofs.YtbpemackmadhgaaDoor
