/- What can be reached is closed; blocks: plain. -/
import Derived.Test.YtoabnkidfapniaaNq
namespace Go.Proofs.Ytoabnkidfapniaa

theorem IsR.zero {l : List Is} {rs : List Bool} (h : IsR l rs) (hn : 0 < rs.length) : rs[0]? = some true := by
  rcases h with ⟨_, rfl⟩ | ⟨_, _, _, h4⟩
  · simp at hn
  · exact (h4 0).2 .zero
theorem IsR.full {l : List Is} {rs : List Bool} (h : IsR l rs) (hn : 0 < rs.length) : rs.length = l.length := by
  rcases h with ⟨_, rfl⟩ | ⟨_, _, h3, _⟩
  · simp at hn
  · exact h3
theorem IsR.next {l : List Is} {rs : List Bool} (h : IsR l rs) {u v : Nat} (hu : rs[u]? = some true) (hv : v ∈ nxt l u) : rs[v]? = some true := by
  rcases h with ⟨_, rfl⟩ | ⟨_, _, _, h4⟩
  · simp at hu
  · exact (h4 v).2 (.step ((h4 u).1 hu) hv)
theorem rch_led {l : List Is} {v : Nat} (h : Rch l v) : v ≠ 0 → ∃ u, u ≠ v ∧ Rch l u ∧ v ∈ nxt l u := by
  induction h with
  | zero => intro h; exact absurd rfl h
  | @step u v hu hv ih =>
    intro h0
    by_cases e : u = v
    · subst e; exact ih h0
    · exact ⟨u, e, hu, hv⟩
/-- Which are led to by another one. -/
def led (n : Nat) (pre : List (Nat × Nat)) : List Bool := (List.range n).map fun v => pre.any fun e => e.2 == v && e.1 != e.2
theorem led_len (n : Nat) (pre : List (Nat × Nat)) : (led n pre).length = n := by simp [led]
theorem led_nil (n : Nat) : led n [] = List.replicate n false := by simp [led, List.map_const']
theorem led_at {n v : Nat} (pre : List (Nat × Nat)) (h : v < n) : (led n pre)[v]? = some (pre.any fun e => e.2 == v && e.1 != e.2) := by simp [led, h]
theorem led_yes {n : Nat} {pre : List (Nat × Nat)} {x : Nat × Nat} (hx : x.1 ≠ x.2) : led n (pre ++ [x]) = (led n pre).set x.2 true := by
  refine List.ext_getElem? fun i => ?_
  rw [List.getElem?_set, led_len]
  by_cases hi : i < n
  · rw [led_at _ hi, led_at _ hi, List.any_append]
    by_cases e : x.2 = i
    · subst e; rw [if_pos rfl, if_pos hi]; simp [hx]
    · rw [if_neg e]
      have e' : (x.2 == i) = false := by simp [e]
      simp [e']
  · rw [List.getElem?_eq_none (by rw [led_len]; omega), List.getElem?_eq_none (l := led n pre) (by rw [led_len]; omega)]
    split
    · rw [if_neg (by omega)]
    · rfl
theorem led_no {n : Nat} {pre : List (Nat × Nat)} {x : Nat × Nat} (hx : x.1 = x.2) : led n (pre ++ [x]) = led n pre := by
  unfold led
  simp [List.any_append, hx]
theorem led_all {l : List Is} {rs : List Bool} (h : IsR l rs) {v : Nat} (hv : rs[v]? = some true) (h0 : v ≠ 0) : (led rs.length (edg l rs))[v]? = some true := by
  have hl := (List.getElem?_eq_some_iff.1 hv).1
  rw [led_at _ hl]
  congr 1
  rw [List.any_eq_true]
  rcases h with ⟨_, rfl⟩ | ⟨_, _, _, h4⟩
  · simp at hv
  · obtain ⟨u, hu, hr, hn⟩ := rch_led ((h4 v).1 hv) h0
    exact ⟨(u, v), mem_edg.2 ⟨(h4 u).2 hr, hn⟩, by simp [hu]⟩
theorem blk_mem {l : List Is} {rs : List Bool} {v : Nat} : v ∈ blk l rs ↔ v < rs.length ∧ rs[v]? = some true ∧ rin l rs v = false := by
  rw [blk_rin, List.mem_filter, List.mem_range]
  simp
theorem blk_rise {l : List Is} {rs : List Bool} {i x y : Nat} (hx : (blk l rs)[i]? = some x) (hy : (blk l rs)[i + 1]? = some y) : x < y := by
  have hp : (blk l rs).Pairwise (· < ·) := by
    rw [blk_rin]
    exact List.Pairwise.filter _ List.pairwise_lt_range
  obtain ⟨h1, e1⟩ := List.getElem?_eq_some_iff.1 hx
  obtain ⟨h2, e2⟩ := List.getElem?_eq_some_iff.1 hy
  have := List.pairwise_iff_getElem.1 hp i (i + 1) h1 h2 (by omega)
  rw [e1, e2] at this
  exact this
theorem blk_zero {l : List Is} {rs : List Bool} (h : rs[0]? = some true) : 0 ∈ blk l rs := blk_mem.2 ⟨(List.getElem?_eq_some_iff.1 h).1, h, rfl⟩
theorem blk_out {l : List Is} {rs : List Bool} {v : Nat} (h : rs[v]? = some true) (hn : v ∉ blk l rs) : 0 < v ∧ rs[v - 1]? = some true ∧ nxt l (v - 1) = [v] := by
  have hr : rin l rs v = true := by
    cases e : rin l rs v
    · exact absurd (blk_mem.2 ⟨(List.getElem?_eq_some_iff.1 h).1, h, e⟩) hn
    · rfl
  unfold rin at hr
  simp only [Bool.and_eq_true, decide_eq_true_eq, beq_iff_eq] at hr
  obtain ⟨⟨⟨h1, h2⟩, h3⟩, h4⟩ := hr
  obtain ⟨k1, k2⟩ := mem_edg.1 (lastU_mem (v := v) (edg l rs) (by omega))
  rw [show lastU (edg l rs) v = v - 1 by omega] at k1 k2
  refine ⟨h1, k1, ?_⟩
  obtain ⟨x, hx⟩ := List.length_eq_one_iff.1 h4
  rw [hx, List.mem_singleton] at k2
  rw [hx, k2]
/-- Which were told. -/
def bgs (n : Nat) (l : List Nat) : List Bool := (List.range n).map fun v => decide (v ∈ l)
theorem bgs_len (n : Nat) (l : List Nat) : (bgs n l).length = n := by simp [bgs]
theorem bgs_nil (n : Nat) : bgs n [] = List.replicate n false := by simp [bgs, List.map_const']
theorem bgs_at {n v : Nat} (l : List Nat) (h : v < n) : (bgs n l)[v]? = some (decide (v ∈ l)) := by simp [bgs, h]
theorem bgs_snoc {n : Nat} (l : List Nat) (x : Nat) : bgs n (l ++ [x]) = (bgs n l).set x true := by
  refine List.ext_getElem? fun i => ?_
  rw [List.getElem?_set, bgs_len]
  by_cases hi : i < n
  · rw [bgs_at _ hi, bgs_at _ hi]
    by_cases e : x = i
    · subst e; rw [if_pos rfl, if_pos hi]; simp
    · rw [if_neg e]
      congr 1
      simp
      exact fun h => absurd h.symm e
  · rw [List.getElem?_eq_none (by rw [bgs_len]; omega), List.getElem?_eq_none (l := bgs n l) (by rw [bgs_len]; omega)]
    split
    · rw [if_neg (by omega)]
    · rfl
theorem blk_nil (l : List Is) : blk l [] = [] := rfl
end Go.Proofs.Ytoabnkidfapniaa
