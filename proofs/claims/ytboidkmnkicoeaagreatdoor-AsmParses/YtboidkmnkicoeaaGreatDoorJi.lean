/- asm.row.take: one word more. -/
import Derived.Test.YtboidkmnkicoeaaGreatDoorJk
namespace Go.Proofs.YtboidkmnkicoeaaGreatDoor
open Go.RowKit Go.Sort

theorem RwAt.words {N b n : Nat} {r : Rs} {v : Value} {W : World} (h : RwAt N b n r v W) (k : Nat) : RwAt N b n { r with words := k } v (W.setCell ⟨b, 1, none⟩ (.int .i64 (k : Int))) :=
  ⟨by have := heap_setCell_same W b 1 _ _ (.int .i64 (k : Int)) h.bk; simpa using this, own_set h.ow h.bk (by decide) _ _, h.nb⟩
theorem RwAt.kind {N b n : Nat} {r : Rs} {v : Value} {W : World} (h : RwAt N b n r v W) (k : Int) : RwAt N b n { r with kind := k } v (W.setCell ⟨b, 2, none⟩ (.int .i64 k)) :=
  ⟨by have := heap_setCell_same W b 2 _ _ (.int .i64 k) h.bk; simpa using this, own_set h.ow h.bk (by decide) _ _, h.nb⟩
theorem RwAt.name {N b n : Nat} {r : Rs} {v : Value} {W : World} (h : RwAt N b n r v W) (l : Bt) : RwAt N b n { r with name := l } v (W.setCell ⟨b, 3, none⟩ (.string (tb l))) :=
  ⟨by have := heap_setCell_same W b 3 _ _ (.string (tb l)) h.bk; simpa using this, own_set h.ow h.bk (by decide) _ _, h.nb⟩
theorem RwAt.cell {N b n : Nat} {r : Rs} {v : Value} {W : World} (h : RwAt N b n r v W) : W.cell? ⟨b, 0, none⟩ = some (.int .i64 n) ∧ W.cell? ⟨b, 1, none⟩ = some (.int .i64 r.words) ∧ W.cell? ⟨b, 2, none⟩ = some (.int .i64 r.kind) ∧ W.cell? ⟨b, 3, none⟩ = some (.string (tb r.name)) ∧ W.cell? ⟨b, 4, none⟩ = some v :=
  ⟨cell_of_obj h.bk rfl, cell_of_obj h.bk rfl, cell_of_obj h.bk rfl, cell_of_obj h.bk rfl, cell_of_obj h.bk rfl⟩
theorem RwAt.frozen {N b n : Nat} {r : Rs} {v : Value} {W : World} (h : RwAt N b n r v W) (j : Nat) : W.frozen? ⟨b, j, none⟩ = false := Lib.frozen_of_heap h.bk j
/-- Of the blocks that there were, none is written but b and that of v. -/
def Foot (b : Nat) (v : Value) (w w' : World) : Prop := w.heap.size ≤ w'.heap.size ∧ ∀ k, k < w.heap.size → k ≠ b → v.ownBlock ≠ some k → w'.heap[k]? = w.heap[k]?
theorem Foot.refl (b : Nat) (v : Value) (w : World) : Foot b v w w := ⟨Nat.le_refl _, fun _ _ _ _ => rfl⟩
theorem Foot.set {b : Nat} {v : Value} {w w1 : World} (h : Foot b v w w1) (j : Nat) (u : Value) : Foot b v w (w1.setCell ⟨b, j, none⟩ u) :=
  ⟨by have := h.1; simpa [World.setCell] using this, fun k h1 h2 h3 => (Below.heap_setCell _ _ _ _ h2).trans (h.2 k h1 h2 h3)⟩
theorem Foot.stay {b : Nat} {v : Value} {w w1 w2 : World} (h : Foot b v w w1) (hb : Below w1.heap.size w1 w2) : Foot b v w w2 :=
  ⟨Nat.le_trans h.1 hb.size, fun k h1 h2 h3 => (hb.block k (by have := h.1; omega)).trans (h.2 k h1 h2 h3)⟩
theorem Foot.grown {b : Nat} {v : Value} {w w1 w2 : World} (h : Foot b v w w1) (hg : w1.grownBy w2 v.ownBlock) : Foot b v w w2 :=
  ⟨Nat.le_trans h.1 hg.size, fun k h1 h2 h3 => (hg.block k (by have := h.1; omega) (fun e => h3 e.symm)).trans (h.2 k h1 h2 h3)⟩
/-- What take answers, and leaves. -/
def TkP (N b n : Nat) (v : Value) (w : World) (z : Except (Int × Nat) Rs) (e : Ending) (w' : World) : Prop := Below N w w' ∧ Foot b v w w' ∧ match z with
  | .ok r' => e = .returned (.tuple #[.int .i64 0, .int .i64 0]) ∧ ∃ v', RwAt N b n r' v' w'
  | .error q => e = .returned (.tuple #[.int .i64 q.1, .int .i64 (q.2 : Nat)])
theorem clone_any (l : Bt) (w : World) (hl : l.length ≤ 281474976710656) : Calls Tryz.prog 26 #[.string (tb l)] w fun e w' => e = .returned (.string (tb l)) ∧ Below w.heap.size w w' := by
  have HC := Hid.mk' (Tryz.stringslite_Clone (tb l) w (by rw [tb_size]; exact hl))
  generalize tb l = s at *
  go_enter Tryz.func26, Tryz.ntmps26
  go_wp2_with (go_at_call 40; refine HC.out.mono ?_; rintro e w1 ⟨rfl, hb1⟩)
  go_ret
  exact ⟨rfl, hb1⟩
theorem TkP.ok {N b n : Nat} {w w' : World} {z : Except (Int × Nat) Rs} {r' : Rs} {v' : Value} {v : Value} (hz : z = .ok r') (hb : Below N w w') (hf : Foot b v w w') (hr : RwAt N b n r' v' w') : TkP N b n v w z (.returned (.tuple #[.int .i64 0, .int .i64 0])) w' := by subst hz; exact ⟨hb, hf, rfl, v', hr⟩
theorem TkP.err {N b n : Nat} {w w' : World} {z : Except (Int × Nat) Rs} {e : Int} {q : Nat} {qi : Int} (hz : z = .error (e, q)) (hq : qi = q) {v : Value} (hb : Below N w w') (hf : Foot b v w w') : TkP N b n v w z (.returned (.tuple #[.int .i64 e, .int .i64 qi])) w' := by subst hz; subst hq; exact ⟨hb, hf, rfl⟩
set_option maxRecDepth 100000 in
set_option maxHeartbeats 2000000 in
/-- The first word. -/
theorem take_first (N b n : Nat) (r : Rs) (v : Value) (l : Bt) (p : Nat) (w : World) (hE : ∀ w', Below N w w' → Env w') (hr : RwAt N b n r v w) (hN : N ≤ w.heap.size) (hn1 : 1 ≤ n) (hn2 : n ≤ 9223372036854775807) (h0 : r.words = 0) :
    Calls Tryz.prog 10 #[.pointer (some ⟨b, 0, none⟩), .string (tb l), .int .i64 (p : Int)] w (TkP N b n v w (tkZ n r p l)) := by
  have hz : tkZ n r p l = if (bgZ n l).1 = 0 then .ok ⟨1, (bgZ n l).2, r.name, r.ns⟩ else .error ((bgZ n l).1, 0) := by unfold tkZ; rw [if_pos h0]
  have h1 := hr.words 1
  have hbN : Below N w (w.setCell ⟨b, 1, none⟩ (.int .i64 ((1 : Nat) : Int))) := (Below.refl N w).setCell hr.nb _
  obtain ⟨c0, c1, c2, c3, c4⟩ := hr.cell
  obtain ⟨d0, d1, d2, d3, d4⟩ := h1.cell
  rw [h0] at c1
  have f1 := hr.frozen 1
  have HB := Hid.mk' (begin_any b n l _ (hE _ hbN) hn1 hn2 d0 _ d2 (h1.frozen 2))
  have HR1 := Hid.mk' h1
  have HBN := Hid.mk' hbN
  have hnb := hr.nb
  have HZ := Hid.mk' hz
  clear hE hr hz h1 hbN d0 d2 d3 d4 c0 c2 c3 c4 hn1 hn2
  simp only at d1
  generalize tb l = s at *
  generalize bgZ n l = z at *
  generalize tkZ n r p l = Z at *
  obtain ⟨z0, z1⟩ := z
  go_enter Tryz.func10, Tryz.ntmps10
  go_wp2_with fail
  refine HB.out.mono ?_
  rintro e w1 ⟨rfl, w2, hb2, hw0, hw1⟩
  have HW0 := Hid.mk' hw0
  have HW1 := Hid.mk' hw1
  clear hw0 hw1
  go_wp2_with fail
  go_ret2
  have hB2 : Below N w w2 := HBN.out.trans (hb2.mono (by simp [World.setCell]; omega))
  by_cases hz0 : z0 = 0
  · subst hz0
    obtain rfl := HW0.out rfl
    refine TkP.ok (r' := ⟨1, z1, r.name, r.ns⟩) (by rw [HZ.out]; rfl) (hB2.setCell hnb _) ((((Foot.refl b v w).set 1 _).stay hb2).set 2 _) ((HR1.out.stay hb2).kind z1)
  · obtain rfl := HW1.out hz0
    exact TkP.err (q := 0) (by rw [HZ.out, if_neg hz0]) rfl hB2 (((Foot.refl b v w).set 1 _).stay hb2)
end Go.Proofs.YtboidkmnkicoeaaGreatDoor

/- asm.row.take: a name; a word too many; a number. -/
namespace Go.Proofs.YtboidkmnkicoeaaGreatDoor
open Go.RowKit Go.Sort

set_option maxRecDepth 100000 in
set_option maxHeartbeats 2000000 in
theorem take_name (N b n : Nat) (r : Rs) (v : Value) (l : Bt) (p : Nat) (w : World) (hr : RwAt N b n r v w) (hN : N ≤ w.heap.size) (hl : l.length ≤ 281474976710656) (h0 : r.words = 1) (hk : r.kind = -2) :
    Calls Tryz.prog 10 #[.pointer (some ⟨b, 0, none⟩), .string (tb l), .int .i64 (p : Int)] w (TkP N b n v w (tkZ n r p l)) := by
  have hz : tkZ n r p l = .ok ⟨2, r.kind, l, r.ns⟩ := by unfold tkZ; rw [if_neg (by omega), if_pos ⟨h0, hk⟩]
  have h1 : RwAt N b n { r with words := 2 } v (w.setCell ⟨b, 1, none⟩ (.int .i64 2)) := hr.words 2
  have hbN : Below N w (w.setCell ⟨b, 1, none⟩ (.int .i64 2)) := (Below.refl N w).setCell hr.nb _
  obtain ⟨c0, c1, c2, c3, c4⟩ := hr.cell
  obtain ⟨d0, d1, d2, d3, d4⟩ := h1.cell
  rw [h0] at c1
  have d1 : (w.setCell ⟨b, 1, none⟩ (.int .i64 2)).cell? ⟨b, 1, none⟩ = some (.int .i64 2) := d1
  simp only at d2
  rw [hk] at d2
  have f1 := hr.frozen 1
  have HC := Hid.mk' (clone_any l)
  have HR1 := Hid.mk' h1
  have HBN := Hid.mk' hbN
  have hnb := hr.nb
  have HZ := Hid.mk' hz
  have HL := Hid.mk' hl
  clear hr hz h1 hbN d0 d3 d4 c0 c2 c3 c4 hk hl
  have HR2 : Hid (∀ w2, Below (w.setCell ⟨b, 1, none⟩ (.int .i64 2)).heap.size (w.setCell ⟨b, 1, none⟩ (.int .i64 2)) w2 → RwAt N b n { r with words := 2 } v w2) := fun w2 hb => HR1.out.stay hb
  generalize hS : tb l = s at *
  have HS := Hid.mk' hS
  clear hS
  generalize tkZ n r p l = Z at *
  go_enter Tryz.func10, Tryz.ntmps10
  go_wp2_with fail
  refine (HC.out _ HL.out).mono ?_
  rintro e w2 ⟨rfl, hb2⟩
  have h2 := HR2.out _ hb2
  obtain ⟨e0, e1, e2, e3, e4⟩ := h2.cell
  have f3 := h2.frozen 3
  have H2 := Hid.mk' h2
  clear h2
  go_wp2_with fail
  go_ret2
  have hB2 : Below N w w2 := HBN.out.trans (hb2.mono (by simp [World.setCell]; omega))
  refine TkP.ok (v' := v) HZ.out (hB2.setCell hnb _) ((((Foot.refl b v w).set 1 _).stay hb2).set 3 _) ?_
  have := H2.out.name l
  rwa [HS.out] at this
/-- One word more is counted. -/
theorem RwAt.more {N b n : Nat} {r : Rs} {v : Value} {W : World} (h : RwAt N b n r v W) : RwAt N b n { r with words := r.words + 1 } v (W.setCell ⟨b, 1, none⟩ (.int .i64 ((r.words : Int) + 1))) := by
  have := h.words (r.words + 1)
  rwa [show ((r.words + 1 : Nat) : Int) = (r.words : Int) + 1 by omega] at this
/-- How it is told that a word is no name and not the first one. -/
theorem third_of {r : Rs} (hn : ¬ (r.words = 1 ∧ r.kind = -2)) : (((r.words : Int) + 1 == 2) = false) ∨ ((((r.words : Int) + 1 == 2) = true) ∧ (r.kind == -2) = false) := by
  by_cases h : r.words = 1
  · exact .inr ⟨by simp [h], beq_no (fun e => hn ⟨h, e⟩)⟩
  · exact .inl (beq_no (by omega))
set_option maxRecDepth 100000 in
set_option maxHeartbeats 2000000 in
theorem take_rest (N b n : Nat) (r : Rs) (v : Value) (l : Bt) (p : Nat) (w : World) (hE : ∀ w', Below N w w' → Env w') (hr : RwAt N b n r v w) (hN : N ≤ w.heap.size) (h0 : r.words ≠ 0) (hw : r.words ≤ 1000000000000000) (hn : ¬ (r.words = 1 ∧ r.kind = -2)) (hp : 1 ≤ p) (hp2 : p ≤ 1000000000000000) (hk0 : 0 ≤ r.kind) (hk1 : r.kind ≤ 19) (hf : (hasL r.kind).length < r.words) :
    Calls Tryz.prog 10 #[.pointer (some ⟨b, 0, none⟩), .string (tb l), .int .i64 (p : Int)] w (TkP N b n v w (tkZ n r p l)) := by
  have hz : tkZ n r p l = .error (7, p - 1) := by unfold tkZ; rw [if_neg h0, if_neg hn, if_pos ⟨hk0, hf⟩]
  have h1 := hr.more
  have hbN : Below N w (w.setCell ⟨b, 1, none⟩ (.int .i64 ((r.words : Int) + 1))) := (Below.refl N w).setCell hr.nb _
  obtain ⟨k, hk⟩ : ∃ k : Nat, r.kind = k := ⟨r.kind.toNat, by omega⟩
  have hfl := (hE _ hbN).fl k (by omega)
  have hsz := fldB_size k
  rw [← hk] at hsz
  obtain ⟨c0, c1, c2, c3, c4⟩ := hr.cell
  obtain ⟨d0, d1, d2, d3, d4⟩ := h1.cell
  simp only at d2
  have d1 : (w.setCell ⟨b, 1, none⟩ (.int .i64 ((r.words : Int) + 1))).cell? ⟨b, 1, none⟩ = some (.int .i64 ((r.words : Int) + 1)) := by rw [d1]; rfl
  rw [hk] at d2
  have f1 := hr.frozen 1
  have e1 := fun d os => cell_regrown d1 d os
  have e2 := fun d os => cell_regrown d2 d os
  have e3 := fun d os => cell_regrown hfl d os
  have hq1 : ((r.words : Int) + 1 == 1) = false := beq_no (by omega)
  have ht := third_of hn
  rw [hk] at ht
  have hkc : (k : Int) < 20 := by omega
  have hkl : decide ((0 : Int) ≤ (k : Int)) = true := decide_eq_true (by omega)
  have hks : (fldB k).size ≤ 4 := by
    rw [fldB_size]; unfold hasL; split <;> split <;> split <;> split <;> simp
  have hg1 : decide ((1 : Int) + ((fldB k).size : Int) < (r.words : Int) + 1) = true := decide_eq_true (by omega)
  have hw1 : IntKind.i64.wrap (1 + ((fldB k).size : Int)) = 1 + ((fldB k).size : Int) := by rw [IntKind.wrap_i64]; omega
  have HBN := Hid.mk' hbN
  have HZ := Hid.mk' hz
  clear hz hr h1 c0 c2 c3 c4 d0 d3 d4 hbN hE hk0 hk1 hk hn hf hsz hfl
  generalize tkZ n r p l = Z at *
  generalize fldB k = F at *
  generalize tb l = s at *
  rcases ht with ht | ⟨ht, ht2⟩
  all_goals
    go_enter Tryz.func10, Tryz.ntmps10
    go_wp2_with fail
    refine wp_region_quiet_below (by kernel_rfl) (by kernel_rfl) ?_
    repeat (go_big_quiet_step (fail))
    refine wpQuiet_nil ?_
    rintro _ ⟨⟨dq, osq⟩, rfl⟩
    go_wp2_with fail
    go_ret2
    exact TkP.err HZ.out (by omega) (Below.trans HBN.out ((below_regrown _ dq osq).mono (by simp [World.setCell]; omega))) (((Foot.refl b v w).set 1 _).stay (below_regrown _ dq osq))
end Go.Proofs.YtboidkmnkicoeaaGreatDoor
