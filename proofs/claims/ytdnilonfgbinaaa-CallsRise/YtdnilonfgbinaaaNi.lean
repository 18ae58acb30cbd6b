/- What can be reached without one instruction: the document's own search. -/
import Derived.Test.YtdnilonfgbinaaaNh
import Derived.Test.YtdnilonfgbinaaaNf
namespace Go.Proofs.Ytdnilonfgbinaaa
open Go.RowKit Go.Sort

/-- By ways without g. -/
inductive RchW (l : List Is) (g : Int) : Nat → Prop
  | zero : g ≠ 0 → RchW l g 0
  | step {u v : Nat} : RchW l g u → v ∈ nxt l u → (v : Int) ≠ g → RchW l g v
theorem rchW_all {l : List Is} {v : Nat} : RchW l (-1) v ↔ Rch l v := by
  constructor
  · intro h
    induction h with
    | zero => exact .zero
    | step _ h _ ih => exact .step ih h
  · intro h
    induction h with
    | zero => exact .zero (by omega)
    | step _ h ih => exact .step ih h (by omega)
def IsW (l : List Is) (g : Int) (rs : List Bool) : Prop := ((l.length = 0 ∨ 1024 < l.length) ∧ rs = []) ∨ (0 < l.length ∧ l.length ≤ 1024 ∧ rs.length = l.length ∧ ∀ v, rs[v]? = some true ↔ RchW l g v)
theorem isW_all {l : List Is} {rs : List Bool} (h : IsW l (-1) rs) : IsR l rs := by
  rcases h with h | ⟨h1, h2, h3, h4⟩
  · exact .inl h
  · exact .inr ⟨h1, h2, h3, fun v => (h4 v).trans rchW_all⟩
/-- What the search holds. -/
structure Sb (l : List Is) (g : Int) (rs : List Bool) (td : List Nat) (i : Nat) : Prop where
  len : rs.length = l.length
  q : ∀ v ∈ td, RchW l g v ∧ v < l.length
  m : ∀ v, rs[v]? = some true ↔ v ∈ td
  n : unm rs + td.length = l.length
  c : ∀ u v, u ∈ td.take i → v ∈ nxt l u → (v : Int) ≠ g → v ∈ td
  z : 0 ∈ td
  il : i ≤ td.length
theorem unm_rep (n : Nat) : unm (List.replicate n false) = n := by unfold unm; simp
theorem Sb.start {l : List Is} {g : Int} (h : 0 < l.length) (hg : g ≠ 0) : Sb l g ((List.replicate l.length false).set 0 true) [0] 0 := by
  have h0 : (List.replicate l.length false)[0]? = some false := by rw [List.getElem?_replicate, if_pos h]
  have := unm_set h0
  rw [unm_rep] at this
  refine ⟨by simp, fun v hv => ?_, fun v => ?_, by simpa using this, fun u v hu => by simp at hu, by simp, by simp⟩
  · rw [List.mem_singleton] at hv; subst hv; exact ⟨.zero hg, h⟩
  · rw [set_true, List.mem_singleton, List.length_replicate]
    constructor
    · rintro (h1 | h1)
      · exact absurd h1 rep_no
      · exact h1.1
    · exact fun e => .inr ⟨e, h⟩
theorem Sb.add {l : List Is} {g : Int} {rs : List Bool} {td : List Nat} {i v : Nat} (h : Sb l g rs td i) (hv : v < l.length) (hr : RchW l g v) (hn : v ∉ td) : Sb l g (rs.set v true) (td ++ [v]) i := by
  have hl := h.len
  have hvf : rs[v]? = some false := by
    cases e : rs[v]? with
    | none => rw [List.getElem?_eq_none_iff] at e; omega
    | some b => cases b
                · rfl
                · exact absurd ((h.m v).1 e) hn
  have hu := unm_set hvf
  have hc := h.n
  refine ⟨by rw [List.length_set, hl], fun x hx => ?_, fun x => ?_, by rw [List.length_append]; simp only [List.length_cons, List.length_nil]; omega, fun x y hx hy hg => ?_, List.mem_append_left _ h.z, by rw [List.length_append]; have := h.il; omega⟩
  · rcases List.mem_append.1 hx with hx | hx
    · exact h.q x hx
    · rw [List.mem_singleton] at hx; subst hx; exact ⟨hr, hv⟩
  · rw [set_true, h.m x, List.mem_append, List.mem_singleton]
    constructor
    · rintro (h1 | h1)
      · exact .inl h1
      · exact .inr h1.1
    · rintro (h1 | h1)
      · exact .inl h1
      · exact .inr ⟨h1, by omega⟩
  · rw [List.take_append_of_le_length h.il] at hx
    exact List.mem_append_left _ (h.c x y hx hy hg)
theorem Sb.next {l : List Is} {g : Int} {rs : List Bool} {td : List Nat} {i u : Nat} (h : Sb l g rs td i) (hu : td[i]? = some u) (ha : ∀ v ∈ nxt l u, (v : Int) ≠ g → v ∈ td) : Sb l g rs td (i + 1) := by
  obtain ⟨hi, e⟩ := List.getElem?_eq_some_iff.1 hu
  refine ⟨h.len, h.q, h.m, h.n, fun x y hx hy hg => ?_, h.z, hi⟩
  rw [List.take_succ_eq_append_getElem hi, List.mem_append, List.mem_singleton] at hx
  rcases hx with hx | rfl
  · exact h.c x y hx hy hg
  · rw [e] at hy; exact ha y hy hg
theorem Sb.done {l : List Is} {g : Int} {rs : List Bool} {td : List Nat} {i : Nat} (h : Sb l g rs td i) (hi : ¬ i < td.length) (h0 : 0 < l.length) (h1 : l.length ≤ 1024) : IsW l g rs := by
  refine .inr ⟨h0, h1, h.len, fun v => ⟨fun hv => (h.q v ((h.m v).1 hv)).1, fun hv => (h.m v).2 ?_⟩⟩
  induction hv with
  | zero => exact h.z
  | step _ hv hg ih => exact h.c _ _ (by rw [List.take_of_length_le (by omega)]; exact ih) hv hg
theorem isW_none {l : List Is} (h0 : 0 < l.length) (h1 : l.length ≤ 1024) : IsW l 0 (List.replicate l.length false) := by
  refine .inr ⟨h0, h1, by simp, fun v => ⟨fun h => absurd h rep_no, fun h => ?_⟩⟩
  exfalso
  induction h with
  | zero h => exact h rfl
  | step _ _ _ ih => exact ih

set_option maxHeartbeats 1000000 in
theorem has_any (f : Fn) (w : World) : Calls Try.prog 49 #[f.val] w fun e w' => e = .returned (.bool (decide (0 < f.code.length ∧ f.code.length ≤ 1024))) ∧ Below w.heap.size w w' := by
  obtain ⟨fn, fpa, fpc, fps, frg, fwd, fca, fcc, fl⟩ := f
  unfold Fn.val
  simp only
  have HB := Hid.mk' (Below.one (Below.refl _ w) (.cells #[.string fn, .slice fpa fps.length fpc, .int .i64 frg, .int .i64 fwd, .slice fca fl.length fcc] 42))
  by_cases h : 0 < fl.length
  · have hq : (0 : Int) < (fl.length : Int) := by omega
    go_enter Try.func49, Try.ntmps49
    go_wp2_with fail
    go_ret
    exact ⟨ret_bool (by rw [Bool.eq_iff_iff]; simp; omega), HB.out⟩
  · have hq : ¬ (0 : Int) < (fl.length : Int) := by omega
    go_enter Try.func49, Try.ntmps49
    go_wp2_with fail
    go_ret
    exact ⟨ret_bool rfl, HB.out⟩
end Go.Proofs.Ytdnilonfgbinaaa
