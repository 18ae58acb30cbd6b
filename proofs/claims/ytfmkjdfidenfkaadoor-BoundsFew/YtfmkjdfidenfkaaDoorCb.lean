/- The document's own words on operations. -/
import Derived.Test.YtfmkjdfidenfkaaDoorCa
namespace Go.Proofs.YtfmkjdfidenfkaaDoor
open Go.RowKit Go.Sort

set_option maxHeartbeats 400000 in
theorem rknown_any (op : Int) (w : World) : Calls Tryd.prog 23 #[.int .i64 op] w fun e w' => e = .returned (.bool (knB op)) ∧ w' = w := by
  by_cases h : 0 ≤ op
  all_goals
    go_enter Tryd.func23, Tryd.ntmps23
    go_wp2
    go_ret
    exact ⟨ret_bool (by simp [knB]; try omega), rfl⟩
theorem rknown_no {op : Int} (h : ¬ (0 ≤ op ∧ op ≤ 19)) (w : World) : Calls Tryd.prog 23 #[.int .i64 op] w fun e w' => e = .returned (.bool false) ∧ w' = w := by
  have := rknown_any op w
  rwa [show knB op = false by simp [knB]; omega] at this
theorem rknown_yes {op : Int} (h : 0 ≤ op ∧ op ≤ 19) (w : World) : Calls Tryd.prog 23 #[.int .i64 op] w fun e w' => e = .returned (.bool true) ∧ w' = w := by
  have := rknown_any op w
  rwa [show knB op = true by simp [knB]; omega] at this

/-- The words in memory. -/
def wordsC : Array Value := ((List.range 20).map fun k => Value.string (rwN k).word).toArray
theorem words_cell (w : World) {k : Nat} (h : k < 20) : (w.alloc (.cells wordsC 9)).cell? ⟨w.heap.size, k, none⟩ = some (.string (rwN k).word) := by
  refine (World.cell?_alloc_at _ _ _ _ rfl).trans ?_
  unfold wordsC
  simp [h]
/-- Which fields an operation has. -/
def hasV (r : Rw) : Value := .agg #[.bool (bt r.regs 0), .bool (bt r.regs 1), .bool (bt r.regs 2), .bool (r.n != 0)]
set_option maxHeartbeats 4000000 in
theorem rhas_any (op : Int) (w : World) : Calls Tryd.prog 60 #[.int .i64 op] w fun e w' => e = .returned (hasV (rwOf op)) ∧ Below w.heap.size w w' := by
  have hb := fun (o1 : Obj) => (Below.one (Below.refl _ w) o1 : Below w.heap.size w _)
  by_cases h : 0 ≤ op ∧ op ≤ 19
  · refine op_cases (P := fun op => Calls Tryd.prog 60 #[.int .i64 op] w fun e w' => e = .returned (hasV (rwOf op)) ∧ Below w.heap.size w w') h.1 h.2 ?_ ?_ ?_ ?_ ?_ ?_ ?_ ?_ ?_ ?_ ?_ ?_ ?_ ?_ ?_ ?_ ?_ ?_ ?_ ?_
    all_goals
      clear h
      go_enter Tryd.func60, Tryd.ntmps60
      go_wp2_with fail
      refine bodyPost_ret (by simp [results, Tryd.results60, go_sem]; exact rfl) rfl ⟨ret_val (by kernel_rfl), hb _⟩
  · 
    have q0 : (op == 0) = false := beq_no (by omega)
    have q1 : (op == 1) = false := beq_no (by omega)
    have q2 : (op == 2) = false := beq_no (by omega)
    have q3 : (op == 3) = false := beq_no (by omega)
    have q4 : (op == 4) = false := beq_no (by omega)
    have q5 : (op == 5) = false := beq_no (by omega)
    have q6 : (op == 6) = false := beq_no (by omega)
    have q7 : (op == 7) = false := beq_no (by omega)
    have q8 : (op == 8) = false := beq_no (by omega)
    have q9 : (op == 9) = false := beq_no (by omega)
    have q10 : (op == 10) = false := beq_no (by omega)
    have q11 : (op == 11) = false := beq_no (by omega)
    have q12 : (op == 12) = false := beq_no (by omega)
    have q13 : (op == 13) = false := beq_no (by omega)
    have q14 : (op == 14) = false := beq_no (by omega)
    have q15 : (op == 15) = false := beq_no (by omega)
    have q16 : (op == 16) = false := beq_no (by omega)
    have q17 : (op == 17) = false := beq_no (by omega)
    have q18 : (op == 18) = false := beq_no (by omega)
    have q19 : (op == 19) = false := beq_no (by omega)
    rw [rwOf_no h]
    clear h
    go_enter Tryd.func60, Tryd.ntmps60
    go_wp2_with fail
    refine bodyPost_ret (by simp [results, Tryd.results60, go_sem]; exact rfl) rfl ⟨ret_val (by kernel_rfl), hb _⟩
set_option maxHeartbeats 4000000 in
theorem rtarget_any (op : Int) (w : World) : Calls Tryd.prog 24 #[.int .i64 op] w fun e w' => e = .returned (.bool ((rwOf op).n == 3)) ∧ w' = w := by
  by_cases h : 0 ≤ op ∧ op ≤ 19
  · refine op_cases (P := fun op => Calls Tryd.prog 24 #[.int .i64 op] w fun e w' => e = .returned (.bool ((rwOf op).n == 3)) ∧ w' = w) h.1 h.2 ?_ ?_ ?_ ?_ ?_ ?_ ?_ ?_ ?_ ?_ ?_ ?_ ?_ ?_ ?_ ?_ ?_ ?_ ?_ ?_
    all_goals
      clear h
      go_enter Tryd.func24, Tryd.ntmps24
      go_wp2_with fail
      go_ret
      exact ⟨ret_bool (by kernel_rfl), rfl⟩
  · 
    have q0 : (op == 0) = false := beq_no (by omega)
    have q1 : (op == 1) = false := beq_no (by omega)
    have q2 : (op == 2) = false := beq_no (by omega)
    have q3 : (op == 3) = false := beq_no (by omega)
    have q4 : (op == 4) = false := beq_no (by omega)
    have q5 : (op == 5) = false := beq_no (by omega)
    have q6 : (op == 6) = false := beq_no (by omega)
    have q7 : (op == 7) = false := beq_no (by omega)
    have q8 : (op == 8) = false := beq_no (by omega)
    have q9 : (op == 9) = false := beq_no (by omega)
    have q10 : (op == 10) = false := beq_no (by omega)
    have q11 : (op == 11) = false := beq_no (by omega)
    have q12 : (op == 12) = false := beq_no (by omega)
    have q13 : (op == 13) = false := beq_no (by omega)
    have q14 : (op == 14) = false := beq_no (by omega)
    have q15 : (op == 15) = false := beq_no (by omega)
    have q16 : (op == 16) = false := beq_no (by omega)
    have q17 : (op == 17) = false := beq_no (by omega)
    have q18 : (op == 18) = false := beq_no (by omega)
    have q19 : (op == 19) = false := beq_no (by omega)
    rw [rwOf_no h]
    clear h
    go_enter Tryd.func24, Tryd.ntmps24
    go_wp2_with fail
    go_ret
    exact ⟨rfl, rfl⟩
set_option maxHeartbeats 1000000 in
theorem register_any (has : Bool) (r regs : Int) (w : World) : Calls Tryd.prog 61 #[.bool has, .int .i64 r, .int .i64 regs] w fun e w' => e = .returned (.int .i64 (regZ has r regs)) ∧ w' = w := by
  cases has
  · by_cases h : r = 0
    · subst h
      rw [show regZ false 0 regs = 0 from rfl]
      go_enter Tryd.func61, Tryd.ntmps61
      go_wp2_with fail
      go_ret
      exact ⟨rfl, rfl⟩
    · rw [show regZ false r regs = 62 by simp [regZ, h]]
      have h1 := bne_of h
      go_enter Tryd.func61, Tryd.ntmps61
      go_wp2_with fail
      go_ret
      exact ⟨rfl, rfl⟩
  · by_cases h1 : r < 0
    · rw [show regZ true r regs = 61 by simp [regZ, h1]]
      go_enter Tryd.func61, Tryd.ntmps61
      go_wp2_with fail
      go_ret
      exact ⟨rfl, rfl⟩
    · by_cases h2 : regs ≤ r
      · rw [show regZ true r regs = 61 by simp [regZ, h2]]
        go_enter Tryd.func61, Tryd.ntmps61
        go_wp2_with fail
        go_ret
        exact ⟨rfl, rfl⟩
      · rw [show regZ true r regs = 0 by simp [regZ, h1, h2]]
        go_enter Tryd.func61, Tryd.ntmps61
        go_wp2_with fail
        go_ret
        exact ⟨rfl, rfl⟩
end Go.Proofs.YtfmkjdfidenfkaaDoor
