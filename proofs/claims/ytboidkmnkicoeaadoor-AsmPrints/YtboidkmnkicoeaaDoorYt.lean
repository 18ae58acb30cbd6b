/- strings.Cut at the end of a line. -/
import Derived.Test.YtboidkmnkicoeaaDoorJb
import Derived.Test.YtboidkmnkicoeaaDoorYc
namespace Go.Proofs.YtboidkmnkicoeaaDoor
open Go.RowKit Go.Sort

theorem index_no {c : UInt8} : ∀ {l : Bt}, c ∉ l → Lib.indexByte l c = -1
  | [], _ => rfl
  | x :: r, h => by
    have h1 : (x == c) = false := beq_eq_false_iff_ne.2 (fun e => h (by simp [e]))
    rw [Lib.indexByte, h1, index_no (fun e => h (by simp [e]))]; rfl
theorem index_at {c : UInt8} (r : Bt) : ∀ {l : Bt}, c ∉ l → Lib.indexByte (l ++ c :: r) c = l.length
  | [], _ => by simp [Lib.indexByte]
  | x :: l, h => by
    have h1 : (x == c) = false := beq_eq_false_iff_ne.2 (fun e => h (by simp [e]))
    have ih := index_at r (l := l) (fun (e : c ∈ l) => h (List.mem_cons_of_mem _ e))
    rw [List.cons_append, Lib.indexByte, h1, ih]
    have : ((l.length : Int) == -1) = false := beq_no (by omega)
    rw [this]
    simp
set_option maxHeartbeats 1000000 in
theorem cut_no (l : Bt) (h : (10 : UInt8) ∉ l) (w : World) : Calls Tryd.prog 20 #[.string (tb l), .string ⟨#[10]⟩] w fun e w' => e = .returned (.tuple #[.string (tb l), .string ⟨#[]⟩, .bool false]) ∧ Below w.heap.size w w' := by
  have HI := Hid.mk' (Tryd.stringslite_Index_one (tb l) 10)
  rw [tb_list, index_no h] at HI
  generalize tb l = s at *
  have HC : Hid (∀ w, Calls Tryd.prog 41 #[.string s, .string ⟨#[10]⟩] w fun e w' => e = .returned (.tuple #[.string s, .string ⟨#[]⟩, .bool false]) ∧ w' = w) := fun w => by
    go_enter Tryd.func41, Tryd.ntmps41
    go_wp2_with (go_at_call 63; refine (HI.out _).mono ?_; rintro e w1 ⟨rfl, rfl⟩)
    go_ret3
    exact ⟨rfl, rfl⟩
  go_enter Tryd.func20, Tryd.ntmps20
  go_wp2_with (go_at_call 41; refine (HC.out _).mono ?_; rintro e w1 ⟨rfl, rfl⟩)
  go_ret3
  exact ⟨rfl, Below.refl _ _⟩
set_option maxHeartbeats 1000000 in
theorem cut_at (a r : Bt) (h : (10 : UInt8) ∉ a) (hl : (a ++ 10 :: r).length ≤ 140737488351232) (w : World) : Calls Tryd.prog 20 #[.string (tb (a ++ 10 :: r)), .string ⟨#[10]⟩] w fun e w' => e = .returned (.tuple #[.string (tb a), .string (tb r), .bool true]) ∧ Below w.heap.size w w' := by
  have HI := Hid.mk' (Tryd.stringslite_Index_one (tb (a ++ 10 :: r)) 10)
  rw [tb_list, index_at r h] at HI
  have e1 : (tb (a ++ 10 :: r)).extract 0 a.length = tb a := by
    rw [ext_tb]
    unfold cutB
    rw [tb_list]
    simp
  have e2 : (tb (a ++ 10 :: r)).extract (a.length + 1) (tb (a ++ 10 :: r)).size = tb r := by
    rw [ext_tb]
    unfold cutB
    rw [tb_list, tb_size, List.drop_append, List.drop_eq_nil_of_le (by omega), show a.length + 1 - a.length = 1 by omega]
    simp only [List.nil_append, List.drop_succ_cons, List.drop_zero, List.length_append, List.length_cons]
    rw [List.take_of_length_le (by omega)]
  have hs : (tb (a ++ 10 :: r)).size = a.length + 1 + r.length := by rw [tb_size]; simp; omega
  have hl' : a.length + 1 + r.length ≤ 140737488351232 := by rw [tb_size] at hs; omega
  generalize tb (a ++ 10 :: r) = s at *
  have k1 : (0 : Int) ≤ (a.length : Int) := by omega
  have k2 : (a.length : Int) ≤ (s.size : Int) := by omega
  have k3 : (a.length : Int) + 1 ≤ (s.size : Int) := by omega
  have k4 : (0 : Int) ≤ (a.length : Int) + 1 := by omega
  have w1 : IntKind.i64.wrap ((a.length : Int) + 1) = (a.length : Int) + 1 := by rw [IntKind.wrap_i64]; omega
  have k5 : decide ((0 : Int) ≤ (a.length : Int)) = true := decide_eq_true (by omega)
  have HE1 := Hid.mk' e1
  have HE2 := Hid.mk' e2
  clear e1 e2 hl hs
  have HC : Hid (∀ w, Calls Tryd.prog 41 #[.string s, .string ⟨#[10]⟩] w fun e w' => e = .returned (.tuple #[.string (tb a), .string (tb r), .bool true]) ∧ Below w.heap.size w w') := fun w => by
    rw [← HE1.out, ← HE2.out]
    go_enter Tryd.func41, Tryd.ntmps41
    go_wp2_with (go_at_call 63; refine (HI.out _).mono ?_; rintro e w1 ⟨rfl, rfl⟩)
    refine wp_region_quiet_below (by kernel_rfl) (by kernel_rfl) ?_
    repeat (go_big_quiet_step (fail))
    refine wpQuiet_nil ?_
    rintro _ ⟨⟨dq, osq⟩, rfl⟩
    go_wp2_with fail
    go_ret3
    exact ⟨rfl, below_regrown _ dq osq⟩
  go_enter Tryd.func20, Tryd.ntmps20
  go_wp2_with (go_at_call 41; refine (HC.out _).mono ?_; rintro e w1 ⟨rfl, hb1⟩)
  go_ret3
  exact ⟨rfl, hb1⟩
end Go.Proofs.YtboidkmnkicoeaaDoor
