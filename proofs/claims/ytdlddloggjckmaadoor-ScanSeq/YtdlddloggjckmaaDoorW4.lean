/- soffitlaw01.ScanAll answers true at every source. -/
import Derived.Test.YtdlddloggjckmaaDoorQ10
import Derived.Test.YtdlddloggjckmaaDoorAw
import Derived.Test.YtdlddloggjckmaaDoorV8
namespace Go.Proofs.YtdlddloggjckmaaDoor
open Go.RowKit

/-- What both All answer: a list that holds xs, an error's number, a place. -/
def Ans (xs : List It) (er at_ : Int) (w : World) (e : Ending) (w' : World) : Prop :=
  ∃ v, e = .returned (.tuple #[v, .int .i64 er, .int .i64 at_]) ∧ Below w.heap.size w w' ∧ RowAt w' v xs

theorem rowAt_nil (W : World) : RowAt W (.slice none 0 0) [] := ⟨none, 0, rfl, Nat.le_refl _, fun h => by simp at h⟩
theorem rowAt_owns {W : World} {base : Nat} {v : Value} {xs : List It} (h : W.ownsRow base 33 4 v xs.length (rowCells xs)) : RowAt W v xs := by
  by_cases h0 : 0 < xs.length
  · obtain ⟨g, cap, rfl, _, hg, hcap, hc⟩ := owns_cells h h0
    exact ⟨_, _, rfl, hcap, fun _ => ⟨g, rfl, hg, hc⟩⟩
  · rcases h.2 with ⟨rfl, h1⟩ | ⟨g, cap, cur, rfl, _, _, hcap, _⟩
    · rw [List.eq_nil_of_length_eq_zero h1]; exact rowAt_nil W
    · exact ⟨_, _, rfl, hcap, fun h => (h0 h).elim⟩
theorem RowAt.below {W W' : World} {v : Value} {xs : List It} (h : RowAt W v xs) (hb : Below W.heap.size W W') : RowAt W' v xs := by
  obtain ⟨bo, cap, h1, h2, h3⟩ := h
  refine ⟨bo, cap, h1, h2, fun h0 => ?_⟩
  obtain ⟨g, e, hg, hc⟩ := h3 h0
  exact ⟨g, e, Nat.lt_of_lt_of_le hg hb.size, fun j u hj => (hb.cell (p := ⟨g, j, none⟩) hg).trans (hc j u hj)⟩

/-- The tokens, the error and the place that the document asks of a source. -/
def docXs (s : ByteArray) : List It := if s.size ≤ 65536 ∧ (items s).all (fun y => y.err == 0) then items s else []
def docEr (s : ByteArray) : Int := if s.size ≤ 65536 then (match (items s).getLast? with | some x => x.err | none => 0) else 4
def docAt (s : ByteArray) : Int := if s.size ≤ 65536 then (match (items s).getLast? with | some x => if x.err = 0 then 0 else (x.at_ : Int) | none => 0) else 65536

theorem doc_long {s : ByteArray} (h : ¬ s.size ≤ 65536) : docXs s = [] ∧ docEr s = 4 ∧ docAt s = 65536 := by
  unfold docXs docEr docAt
  exact ⟨if_neg (fun h' => h h'.1), if_neg h, if_neg h⟩
theorem doc_err {s : ByteArray} (h : s.size ≤ 65536) {pre : List It} {x : It} (hi : items s = pre ++ [x]) (hx : x.err ≠ 0) : docXs s = [] ∧ docEr s = x.err ∧ docAt s = x.at_ := by
  unfold docXs docEr docAt
  rw [if_pos h, if_pos h, hi]
  refine ⟨if_neg (fun h' => ?_), by simp, by simp [hx]⟩
  have := List.all_eq_true.1 h'.2 x (by simp)
  simp at this; exact hx this
theorem doc_ok {s : ByteArray} (h : s.size ≤ 65536) (ha : ∀ y ∈ items s, y.err = 0) : docXs s = items s ∧ docEr s = 0 ∧ docAt s = 0 := by
  unfold docXs docEr docAt
  rw [if_pos h, if_pos h]
  refine ⟨if_pos ⟨h, List.all_eq_true.2 fun y hy => by simp [ha y hy]⟩, ?_, ?_⟩
  · cases hl : (items s).getLast? with
    | none => rfl
    | some x => exact ha x (List.mem_of_getLast? hl)
  · cases hl : (items s).getLast? with
    | none => rfl
    | some x => simp [ha x (List.mem_of_getLast? hl)]
theorem docXs_len (s : ByteArray) : (docXs s).length ≤ 65537 := by
  unfold docXs
  split
  · rename_i h; have := items_len s; omega
  · simp

theorem ans_of_out {s : ByteArray} {w w' : World} {e : Ending} (h : s.size ≤ 65536) (ho : AllOut s w e w') : Ans (docXs s) (docEr s) (docAt s) w e w' := by
  obtain ⟨hb, ⟨pre, x, h1, h2, h3, h4⟩ | ⟨h1, v, h2, h3⟩⟩ := ho
  · obtain ⟨d1, d2, d3⟩ := doc_err h h1 h3
    rw [d1, d2, d3]; exact ⟨_, h4, hb, rowAt_nil _⟩
  · obtain ⟨d1, d2, d3⟩ := doc_ok h h1
    rw [d1, d2, d3]; exact ⟨_, h2, hb, rowAt_owns h3⟩

theorem all_ans (s : ByteArray) (w : World) (hv : VarOk w) : Calls Tryd.prog 10 #[.string s] w (Ans (docXs s) (docEr s) (docAt s) w) := by
  by_cases h : s.size ≤ 65536
  · exact (all_any s w h hv).mono fun e w' ho => ans_of_out h ho
  · obtain ⟨d1, d2, d3⟩ := doc_long h
    rw [d1, d2, d3]
    exact (all_long s w (by omega)).mono fun e w' ⟨h1, h2⟩ => ⟨_, h1, h2, rowAt_nil _⟩

/-- Ahead, in the same words, with the tokens ahead of the error. -/
def aheadXs (s : ByteArray) : List It := if s.size ≤ 65536 then (items s).filter (fun y => y.err == 0) else []
theorem ahead_ans (s : ByteArray) (w : World) : Calls Tryd.prog 13 #[.string s] w (Ans (aheadXs s) (docEr s) (docAt s) w) := by
  by_cases h : s.size ≤ 65536
  · refine (ahead_short s w (by omega)).mono fun e w' ho => ?_
    obtain ⟨hb, ⟨pre, x, v, h1, h2, h3, h4, h5⟩ | ⟨h1, v, h2, h3⟩⟩ := ho
    · obtain ⟨_, d2, d3⟩ := doc_err h h1 h3
      have hx : aheadXs s = pre := by
        unfold aheadXs; rw [if_pos h, h1, List.filter_append]
        rw [List.filter_eq_self.2 (fun y hy => by simp [h2 y hy])]
        simp [h3]
      rw [hx, d2, d3]; exact ⟨_, h4, hb, rowAt_owns h5⟩
    · obtain ⟨_, d2, d3⟩ := doc_ok h h1
      have hx : aheadXs s = items s := by
        unfold aheadXs; rw [if_pos h]; exact List.filter_eq_self.2 (fun y hy => by simp [h1 y hy])
      rw [hx, d2, d3]; exact ⟨_, h2, hb, rowAt_owns h3⟩
  · obtain ⟨_, d2, d3⟩ := doc_long h
    have hx : aheadXs s = [] := by unfold aheadXs; rw [if_neg h]
    rw [hx, d2, d3]
    exact (ahead_long s w (by omega)).mono fun e w' ⟨h1, h2⟩ => ⟨_, h1, by rw [h2]; exact Below.refl _ _, rowAt_nil _⟩

set_option maxHeartbeats 1000000 in
theorem rAll_err (s : ByteArray) (w : World) (her : (docEr s != 0) = true) : Calls Tryd.prog 11 #[.string s] w fun e w' => e = .returned (.tuple #[.slice none 0 0, .int .i64 (docEr s), .int .i64 (docAt s)]) ∧ Below w.heap.size w w' := by
  go_enter Tryd.func11, Tryd.ntmps11
  go_wp2_with (go_at_call 13; refine (ahead_ans _ _).mono ?_; rintro e w1 ⟨v, rfl, hb, hr⟩)
  go_ret3
  exact ⟨rfl, hb⟩
set_option maxHeartbeats 1000000 in
theorem rAll_ok (s : ByteArray) (w : World) (her : (docEr s != 0) = false) : Calls Tryd.prog 11 #[.string s] w (Ans (aheadXs s) (docEr s) (docAt s) w) := by
  go_enter Tryd.func11, Tryd.ntmps11
  go_wp2_with (go_at_call 13; refine (ahead_ans _ _).mono ?_; rintro e w1 ⟨v, rfl, hb, hr⟩)
  go_ret3
  exact ⟨v, rfl, hb, hr⟩

theorem items_errs (s : ByteArray) : (∀ y ∈ items s, y.err = 0) ∨ ∃ pre x, items s = pre ++ [x] ∧ x.err ≠ 0 := by
  by_cases h : ∀ y ∈ items s, y.err = 0
  · exact .inl h
  · right
    obtain ⟨y, hy, hne⟩ : ∃ y, y ∈ items s ∧ y.err ≠ 0 := by
      refine Classical.byContradiction fun hn => h fun y hy => Classical.byContradiction fun hne => hn ⟨y, hy, hne⟩
    obtain ⟨a, b, hab⟩ := List.append_of_mem hy
    have hb : b = [] := itemsFrom_last s _ _ a y b hab hne
    exact ⟨a, y, by rw [hab, hb], hne⟩

theorem rAll_ans (s : ByteArray) (w : World) : Calls Tryd.prog 11 #[.string s] w (Ans (docXs s) (docEr s) (docAt s) w) := by
  by_cases h : s.size ≤ 65536
  · rcases items_errs s with ha | ⟨pre, x, h1, h3⟩
    · obtain ⟨d1, d2, _⟩ := doc_ok h ha
      have hx : docXs s = aheadXs s := by
        rw [d1]; unfold aheadXs; rw [if_pos h]; exact (List.filter_eq_self.2 (fun y hy => by simp [ha y hy])).symm
      rw [hx]; exact rAll_ok s w (by rw [d2]; rfl)
    · obtain ⟨d1, d2, _⟩ := doc_err h h1 h3
      rw [d1]
      exact (rAll_err s w (by rw [d2]; simpa using h3)).mono fun e w' ⟨a, b⟩ => ⟨_, a, b, rowAt_nil _⟩
  · obtain ⟨d1, d2, _⟩ := doc_long h
    rw [d1]
    exact (rAll_err s w (by rw [d2]; rfl)).mono fun e w' ⟨a, b⟩ => ⟨_, a, b, rowAt_nil _⟩

set_option maxRecDepth 100000 in
set_option maxHeartbeats 1000000 in
theorem scanAll_any (s : ByteArray) (w : World) (hv : VarOk w) : Calls Tryd.prog 4 #[.string s] w fun e w' => e = .returned (.bool true) ∧ Below w.heap.size w w' := by
  have hl := docXs_len s
  go_enter Tryd.func4, Tryd.ntmps4
  go_wp2_with fail
  refine (awake_any _ hv).mono ?_
  rintro e w1 ⟨rfl, hb1⟩
  have hv1 := hv.below hb1
  go_wp2_with fail
  refine (all_ans _ _ hv1).mono ?_
  rintro e w2 ⟨v, rfl, hb2, hr2⟩
  go_wp2_with fail
  refine (rAll_ans _ _).mono ?_
  rintro e w3 ⟨v', rfl, hb3, hr3⟩
  have hr3' := hr2.below hb3
  go_wp2_with fail
  refine (same_any (docXs s) _ _ _ (by omega) hr3' hr3).mono ?_
  rintro e w4 ⟨rfl, hb4⟩
  go_wp2_with fail
  go_ret
  have hz1 := hb1.size
  have hz2 := hb2.size
  have hz3 := hb3.size
  exact ⟨rfl, ((hb1.trans (hb2.mono hz1)).trans (hb3.mono (by omega))).trans (hb4.mono (by omega))⟩

end Go.Proofs.YtdlddloggjckmaaDoor
