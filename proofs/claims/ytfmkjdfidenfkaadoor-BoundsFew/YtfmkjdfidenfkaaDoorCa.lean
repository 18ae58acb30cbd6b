/- The program's table; what is told of an operation. -/
import Derived.Test.YtfmkjdfidenfkaaDoorZaa
import Derived.Test.YtfmkjdfidenfkaaDoorProg
import Derived.Lib.QuietBelow
import Derived.Deep.RegionHeld3
import Derived.Laws.StructEq
import Derived.Deep.Cut
import Derived.Deep.CutRange
import Derived.Deep.CutBlock
namespace Go.Proofs.YtfmkjdfidenfkaaDoor
open Go.RowKit Go.Sort

/-- The world holds the table. -/
def Tab (w : World) : Prop := ∀ k, k < 20 → w.cell? ⟨0, k * 6, none⟩ = some (.string (rwN k).word) ∧ w.cell? ⟨0, k * 6 + 1, none⟩ = some (.int .i64 (rwN k).weight) ∧ w.cell? ⟨0, k * 6 + 2, none⟩ = some (.int .i64 (rwN k).regs) ∧
  w.cell? ⟨0, k * 6 + 3, none⟩ = some (.int .i64 (rwN k).reads) ∧ w.cell? ⟨0, k * 6 + 4, none⟩ = some (.bool (rwN k).writes) ∧ w.cell? ⟨0, k * 6 + 5, none⟩ = some (.int .i64 (rwN k).n)
theorem Tab.stay {w w' : World} (hb : Below w.heap.size w w') (h : Tab w) : Tab w' := by
  have k1 : ∀ {p : Addr} {v : Value}, w.cell? p = some v → w'.cell? p = some v := fun h => (hb.cell (lt_of_cell h)).trans h
  intro k hk
  obtain ⟨h0, h1, h2, h3, h4, h5⟩ := h k hk
  exact ⟨k1 h0, k1 h1, k1 h2, k1 h3, k1 h4, k1 h5⟩

set_option maxHeartbeats 400000 in
theorem known_any (op : Int) (w : World) : Calls Tryd.prog 79 #[.int .i64 op] w fun e w' => e = .returned (.bool (knB op)) ∧ w' = w := by
  by_cases h : 0 ≤ op
  all_goals
    go_enter Tryd.func79, Tryd.ntmps79
    go_wp2
    go_ret
    exact ⟨ret_bool (by simp [knB]; try omega), rfl⟩

set_option maxHeartbeats 1000000 in
theorem rowOf_any (op : Int) (w : World) (ht : Tab w) : Calls Tryd.prog 88 #[.int .i64 op] w fun e w' => e = .returned (rwOf op).val ∧ Below w.heap.size w w' := by
  have hb := fun (o1 : Obj) => (Below.one (Below.refl _ w) o1 : Below w.heap.size w _)
  by_cases h : 0 ≤ op ∧ op ≤ 19
  · obtain ⟨k, rfl⟩ : ∃ k : Nat, op = k := ⟨op.toNat, by omega⟩
    have hk : k < 20 := by omega
    rw [rwOf_nat hk]
    have HK : Hid (∀ w, Calls Tryd.prog 79 #[.int .i64 (k : Int)] w fun e w' => e = .returned (.bool true) ∧ w' = w) := fun w => by
      have := known_any k w
      rwa [show knB k = true by simp [knB]; omega] at this
    obtain ⟨h0, h1, h2, h3, h4, h5⟩ := (ht.stay (hb (.cells #[.string ⟨#[]⟩, .int .i64 0, .int .i64 0, .int .i64 0, .bool false, .int .i64 0] 116))) k hk
    have hg : w.heap.size ≠ 0 := by have := lt_of_cell (ht 0 (by omega)).1; simp only at this; omega
    generalize rwN k = r at *
    clear ht h
    unfold Rw.val
    go_enter Tryd.func88, Tryd.ntmps88
    go_wp2_with (go_at_call 79; refine (HK.out _).mono ?_; rintro e w1 ⟨rfl, rfl⟩)
    exact bodyPost_ret (v := r.val) (by simp [results, Tryd.results88, go_sem, Rw.val, *]) rfl ⟨rfl, hb _⟩
  · have HK : Hid (∀ w, Calls Tryd.prog 79 #[.int .i64 op] w fun e w' => e = .returned (.bool false) ∧ w' = w) := fun w => by
      have := known_any op w
      rwa [show knB op = false by simp [knB]; omega] at this
    rw [rwOf_no h]
    clear ht h
    go_enter Tryd.func88, Tryd.ntmps88
    go_wp2_with (go_at_call 79; refine (HK.out _).mono ?_; rintro e w1 ⟨rfl, rfl⟩)
    exact bodyPost_ret (v := (Rw.val ⟨⟨#[]⟩, 0, 0, 0, false, 0⟩)) (by simp [results, Tryd.results88, go_sem, Rw.val, *]) rfl ⟨rfl, hb _⟩

theorem fld_row0 (w : World) (s : ByteArray) (a b c : Int) (d : Bool) (n : Int) : (Instr.field 116 (.agg #[.string s, .int .i64 a, .int .i64 b, .int .i64 c, .bool d, .int .i64 n]) 0).run Tryd.prog w = .ok (.string s) w := by kernel_rfl
theorem fld_row1 (w : World) (s : ByteArray) (a b c : Int) (d : Bool) (n : Int) : (Instr.field 116 (.agg #[.string s, .int .i64 a, .int .i64 b, .int .i64 c, .bool d, .int .i64 n]) 1).run Tryd.prog w = .ok (.int .i64 a) w := by kernel_rfl
theorem fld_row2 (w : World) (s : ByteArray) (a b c : Int) (d : Bool) (n : Int) : (Instr.field 116 (.agg #[.string s, .int .i64 a, .int .i64 b, .int .i64 c, .bool d, .int .i64 n]) 2).run Tryd.prog w = .ok (.int .i64 b) w := by kernel_rfl
theorem fld_row3 (w : World) (s : ByteArray) (a b c : Int) (d : Bool) (n : Int) : (Instr.field 116 (.agg #[.string s, .int .i64 a, .int .i64 b, .int .i64 c, .bool d, .int .i64 n]) 3).run Tryd.prog w = .ok (.int .i64 c) w := by kernel_rfl
theorem fld_row4 (w : World) (s : ByteArray) (a b c : Int) (d : Bool) (n : Int) : (Instr.field 116 (.agg #[.string s, .int .i64 a, .int .i64 b, .int .i64 c, .bool d, .int .i64 n]) 4).run Tryd.prog w = .ok (.bool d) w := by kernel_rfl
theorem fld_row5 (w : World) (s : ByteArray) (a b c : Int) (d : Bool) (n : Int) : (Instr.field 116 (.agg #[.string s, .int .i64 a, .int .i64 b, .int .i64 c, .bool d, .int .i64 n]) 5).run Tryd.prog w = .ok (.int .i64 n) w := by kernel_rfl
theorem _root_.Go.RowKit.Below.drewN {B : Nat} {w w' : World} (h : Below B w w') (n : Nat) : Below B w (w'.drewN n) := h.trans ⟨rfl, rfl, rfl, Nat.le_refl _, fun _ _ => rfl⟩
theorem cell_kept_below {W W' : World} {p : Addr} {v : Value} (h : W.cell? p = some v) (hb : Below W.heap.size W W') : W'.cell? p = some v := (hb.cell (lt_of_cell h)).trans h
theorem new_cell (w : World) (cs : Array Value) (t : TypeId) (j : Nat) (v : Value) (h : cs[j]? = some v) : (w.alloc (.cells cs t)).cell? ⟨w.heap.size, j, none⟩ = some v := (World.cell?_alloc_at cs t _ _ rfl).trans h
set_option maxHeartbeats 1000000 in
theorem fields_any (x : Is) (w : World) : Calls Tryd.prog 89 #[x.val] w fun e w' => e = .returned (.agg #[.int .i64 x.a, .int .i64 x.b, .int .i64 x.c]) ∧ Below w.heap.size w w' := by
  have hb := fun (o1 o2 : Obj) => (Below.one (Below.one (Below.refl _ w) o1) o2 : Below w.heap.size w _)
  unfold Is.val
  go_enter Tryd.func89, Tryd.ntmps89
  go_wp2
  exact bodyPost_ret (v := .agg #[.int .i64 x.a, .int .i64 x.b, .int .i64 x.c]) (by simp [results, Tryd.results89, go_sem]) rfl ⟨rfl, hb _ _⟩
end Go.Proofs.YtfmkjdfidenfkaaDoor
