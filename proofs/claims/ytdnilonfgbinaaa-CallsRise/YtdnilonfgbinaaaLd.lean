/- CallsRise: the way from the fault's call on, plain. -/
import Derived.Test.YtdnilonfgbinaaaLc
namespace Go.Proofs.Ytdnilonfgbinaaa
open Go.RowKit Go.Sort

/-- The search from a on, to t. -/
structure Rv (m : Mo) (a t : Nat) (rs : List Bool) (td : List Nat) (i : Nat) : Prop where
  len : rs.length = m.funcs.length
  tq : ∀ x ∈ td, x < m.funcs.length
  st : a ∈ td
  cl : ∀ k, rs[k]? = some true → ∀ y, CE m k y → y ∈ td
  ps : ∀ x ∈ td.take i, x ≠ t ∧ rs[x]? = some true
  ln : td.length + m.funcs.length * unm rs ≤ 1 + m.funcs.length * m.funcs.length
theorem Rv.start {m : Mo} {a t : Nat} (ha : a < m.funcs.length) : Rv m a t (List.replicate m.funcs.length false) [a] 0 := by
  refine ⟨by simp, fun x hx => by rw [List.mem_singleton.1 hx]; exact ha, by simp, fun k h => absurd h rep_no, (fun x hx => by simp at hx), ?_⟩
  have h1 : unm (List.replicate m.funcs.length false) = m.funcs.length := by unfold unm; simp
  rw [h1]
  simp
theorem Rv.pass {m : Mo} {a t u i : Nat} {rs : List Bool} {td : List Nat} (h : Rv m a t rs td i) (hu : td[i]? = some u) (hr : rs[u]? = some true) (ht : u ≠ t) : Rv m a t rs td (i + 1) :=
  ⟨h.len, h.tq, h.st, h.cl, fun x hx => by
    rcases take_one hu hx with hx | rfl
    · exact h.ps x hx
    · exact ⟨ht, hr⟩, h.ln⟩
theorem Rv.add {m : Mo} {a t u i : Nat} {rs : List Bool} {td ks : List Nat} (h : Rv m a t rs td i) (hu : td[i]? = some u) (hr : rs[u]? = some false) (ht : u ≠ t) (hk : IsOf m (u : Int) ks) : Rv m a t (rs.set u true) (td ++ ks) (i + 1) := by
  have hil := (List.getElem?_eq_some_iff.1 hu).1
  refine ⟨by rw [List.length_set]; exact h.len, fun x hx => ?_, List.mem_append_left _ h.st, fun k hkk y hy => ?_, fun x hx => ?_, ?_⟩
  · rcases List.mem_append.1 hx with hx | hx
    · exact h.tq x hx
    · exact ((hk.2 x).1 hx).lt
  · rcases set_true.1 hkk with h1 | ⟨rfl, _⟩
    · exact List.mem_append_left _ (h.cl k h1 y hy)
    · exact List.mem_append_right _ ((hk.2 y).2 hy)
  · rw [List.take_append_of_le_length (by omega)] at hx
    rcases take_one hu hx with hx | rfl
    · exact ⟨(h.ps x hx).1, set_true.2 (.inl (h.ps x hx).2)⟩
    · exact ⟨ht, set_true.2 (.inr ⟨rfl, (List.getElem?_eq_some_iff.1 hr).1⟩)⟩
  · have h1 := h.ln
    have h2 := unm_set hr
    have h3 := hk.len
    rw [← h2, Nat.mul_add, Nat.mul_one] at h1
    rw [List.length_append]
    omega
theorem Rv.never {m : Mo} {a t i : Nat} {rs : List Bool} {td : List Nat} (h : Rv m a t rs td i) (hi : td.length ≤ i) (ht : Bk m t a) : False := by
  have hall : ∀ x ∈ td, x ≠ t ∧ rs[x]? = some true := fun x hx => h.ps x (by rw [List.take_of_length_le hi]; exact hx)
  have key : ∀ g k, Ld (CE m) g k → g ∈ td → k ∈ td := by
    intro g k hl
    induction hl with
    | one e => exact fun hg => h.cl _ (hall _ hg).2 _ e
    | on e _ ih => exact fun hg => ih (h.cl _ (hall _ hg).2 _ e)
  rcases ht with rfl | ht
  · exact (hall a h.st).1 rfl
  · exact (hall t (key a t ht h.st)).1 rfl
/-- What the fault's call is. -/
theorem cyc_is {m : Mo} {f i : Nat} (h : CycAt m f i) : ∃ (F : Fn) (x : Is) (k : Nat), m.funcs[f]? = some F ∧ F.code[i]? = some x ∧ x.op = 19 ∧ x.n = (k : Int) ∧ k < m.funcs.length ∧ Bk m f k := by
  obtain ⟨_, _, _, F, rs, h1, h2, ⟨k, h3, h4⟩, _⟩ := h
  obtain ⟨_, h5, x, h6, h7, h8⟩ := mem_cls.1 h3
  exact ⟨F, x, k, h1, h6, h7, h8, h5, h4⟩
end Go.Proofs.Ytdnilonfgbinaaa
