/- Edges back and ahead, loops and their members: plain. -/
import Derived.Test.YtgiokognngllcaaDoorGgah
namespace Go.Proofs.YtgiokognngllcaaDoor

noncomputable def pD (p : Prop) : Bool := @decide p (Classical.propDecidable p)
theorem pD_t {p : Prop} : pD p = true ↔ p := @decide_eq_true_iff p (Classical.propDecidable p)
theorem pD_f {p : Prop} : pD p = false ↔ ¬ p := @decide_eq_false_iff_not p (Classical.propDecidable p)
theorem pD_of {p q : Prop} (h : p ↔ q) : pD p = pD q := by rw [Bool.eq_iff_iff, pD_t, pD_t]; exact h
theorem pD_b {p : Prop} {b : Bool} (h : b = true ↔ p) : b = pD p := by rw [Bool.eq_iff_iff, pD_t]; exact h

/-- An edge that goes back; one that doesn't; a way of such. -/
def Ba (l : List Is) (u v : Nat) : Prop := v ∈ nxt l u ∧ Dm l v u
def Ah (l : List Is) (u v : Nat) : Prop := Rch l u ∧ v ∈ nxt l u ∧ ¬ Dm l v u
theorem Ba.rch {l : List Is} {u v : Nat} (h : Ba l u v) : Rch l u := h.2.1
theorem Ah.ne {l : List Is} {u v : Nat} (h : Ah l u v) : u ≠ v := by rintro rfl; exact h.2.2 (Dm.refl h.1)
theorem Ah.lt {l : List Is} {u v : Nat} (h0 : 0 < l.length) (h : Ah l u v) : u < l.length ∧ v < l.length := ⟨h.1.lt h0, nxt_lt h.2.1⟩
theorem ah_ba {l : List Is} {u v : Nat} (hu : Rch l u) (hv : v ∈ nxt l u) : Ah l u v ∨ Ba l u v := by
  by_cases h : Dm l v u
  · exact .inr ⟨hv, h⟩
  · exact .inl ⟨hu, hv, h⟩
inductive Awy (l : List Is) : Nat → Nat → Prop
  | one {u v : Nat} : Ah l u v → Awy l u v
  | step {u v w : Nat} : Awy l u v → Ah l v w → Awy l u w
theorem Awy.trans {l : List Is} {u v w : Nat} (h : Awy l u v) (h' : Awy l v w) : Awy l u w := by
  induction h' with
  | one h' => exact .step h h'
  | step _ h' ih => exact .step ih h'
theorem Awy.first {l : List Is} {u v w : Nat} (h : Ah l u v) (h' : Awy l v w) : Awy l u w := (Awy.one h).trans h'
theorem Awy.lt {l : List Is} {u v : Nat} (h0 : 0 < l.length) (h : Awy l u v) : u < l.length ∧ v < l.length := by
  induction h with
  | one h => exact h.lt h0
  | step _ h ih => exact ⟨ih.1, (h.lt h0).2⟩
/-- A way ahead through greater ones alone. -/
inductive Gwy (l : List Is) (f : Nat) : Nat → Prop
  | one {v : Nat} : Ah l f v → Gwy l f v
  | step {u v : Nat} : Gwy l f u → f < u → Ah l u v → Gwy l f v
theorem Gwy.awy {l : List Is} {f v : Nat} (h : Gwy l f v) : Awy l f v := by
  induction h with
  | one h => exact .one h
  | step _ _ h ih => exact .step ih h
theorem gwy_least {l : List Is} {v : Nat} (hm : ∀ u, Awy l u u → v ≤ u) {x : Nat} (h : Awy l v x) (h' : Awy l x v) : Gwy l v x := by
  induction h with
  | one h => exact .one h
  | @step u x hvu hux ih =>
    have huv : Awy l u v := Awy.first hux h'
    have hg := ih huv
    have hle := hm u (huv.trans hvu)
    rcases Nat.lt_or_ge v u with hlt | hge
    · exact .step hg hlt hux
    · obtain rfl : v = u := by omega
      exact .one hux
/-- What the program asks of the least one of a round way. -/
def Knt (l : List Is) (v : Nat) : Prop := (∃ u, v < u ∧ Ah l u v) ∧ Gwy l v v
theorem knt_least {l : List Is} {v : Nat} (h : Awy l v v) (hm : ∀ u, Awy l u u → v ≤ u) : Knt l v := by
  have hg := gwy_least hm h h
  refine ⟨?_, hg⟩
  cases hg with
  | one h => exact absurd rfl h.ne
  | step _ hu h => exact ⟨_, hu, h⟩
theorem Knt.awy {l : List Is} {v : Nat} (h : Knt l v) : Awy l v v := h.2.awy
theorem find_least {p q : Nat → Bool} {n : Nat} (h1 : ∀ v, v < n → p v = true → q v = true) (h2 : ∀ v, v < n → q v = true → (∀ u, u < v → q u = false) → p v = true) : (List.range n).find? p = (List.range n).find? q := by
  induction n with
  | zero => rfl
  | succ n ih =>
    have ih := ih (fun v hv => h1 v (by omega)) (fun v hv => h2 v (by omega))
    rw [List.range_succ, List.find?_append, List.find?_append, ih]
    cases e : (List.range n).find? q with
    | some v => rfl
    | none =>
      rw [List.find?_eq_none] at e
      have e1 : p n = q n := by
        cases eq : q n with
        | true => exact h2 n (by omega) eq fun u hu => by have := e u (List.mem_range.2 hu); simpa using this
        | false => cases ep : p n with
                   | false => rfl
                   | true => rw [h1 n (by omega) ep] at eq; cases eq
      simp [List.find?, e1]
/-- The least one that comes back to itself. -/
noncomputable def kntZ (l : List Is) : Option Nat := (List.range l.length).find? fun v => pD (Awy l v v)
theorem kntZ_knt (l : List Is) : (List.range l.length).find? (fun v => pD (Knt l v)) = kntZ l := by
  refine find_least (fun v _ h => pD_t.2 (pD_t.1 h).awy) fun v _ h hm => pD_t.2 (knt_least (pD_t.1 h) fun u hu => ?_)
  rcases Nat.lt_or_ge u v with hlt | hge
  · exact absurd hu (pD_f.1 (hm u hlt))
  · exact hge
theorem kntZ_none {l : List Is} (h0 : 0 < l.length) (h : kntZ l = none) (v : Nat) : ¬ Awy l v v := fun hv => by
  unfold kntZ at h
  rw [List.find?_eq_none] at h
  exact h v (List.mem_range.2 (hv.lt h0).1) (pD_t.2 hv)

/-- Members of a head's loop. -/
inductive Mbr (l : List Is) (h : Nat) : Nat → Prop
  | head : Mbr l h h
  | back {u : Nat} : Ba l u h → Mbr l h u
  | step {u x : Nat} : Mbr l h x → x ≠ h → Rch l u → x ∈ nxt l u → Mbr l h u
theorem Mbr.dm {l : List Is} {h x : Nat} (hh : Rch l h) (hx : Mbr l h x) : Dm l h x := by
  induction hx with
  | head => exact Dm.refl hh
  | back hb => exact hb.2
  | step _ hn hu hv ih => exact ih.edge hu hv (Ne.symm hn)
theorem Mbr.lt {l : List Is} {h x : Nat} (h0 : 0 < l.length) (hh : Rch l h) (hx : Mbr l h x) : x < l.length := (hx.dm hh).1.lt h0
/-- From i, and not by k. -/
inductive Qv (l : List Is) (i k : Nat) : Nat → Prop
  | at : Qv l i k i
  | step {u v : Nat} : Qv l i k u → Rch l u → v ∈ nxt l u → v ≠ k → Qv l i k v
theorem qv_of {l : List Is} {i k n : Nat} (hk : Dm l k i) (hn : k ≠ i) (hi : Dm l i n) : Qv l i k n := by
  have hki : RchW l (i : Int) k := Classical.byContradiction fun h => hn (hk.anti ⟨hk.left, h⟩)
  have key : ∀ v, Rch l v → RchW l (i : Int) v ∨ Qv l i k v := by
    intro v hv
    induction hv with
    | zero =>
      refine .inl (rchW_zero fun e => ?_)
      subst e
      exact hn (dm_at_zero.1 hk)
    | @step u v hu hv ih =>
      rcases ih with h | h
      · by_cases e : v = i
        · rw [e]; exact .inr .at
        · exact .inl (h.next hv e)
      · by_cases e : v = k
        · rw [e]; exact .inl hki
        · exact .inr (.step h hu hv e)
  rcases key n hi.1 with h | h
  · exact absurd h hi.2
  · exact h
theorem Qv.mbr {l : List Is} {i k n : Nat} (hn : i ≠ k) (h : Qv l i k n) (hm : Mbr l k n) : Mbr l k i := by
  have key : ∀ v, Qv l i k v → v ≠ k ∧ (Mbr l k v → Mbr l k i) := by
    intro v hv
    induction hv with
    | «at» => exact ⟨hn, id⟩
    | step _ hu hv hk ih => exact ⟨hk, fun h => ih.2 (.step h hk hu hv)⟩
  exact (key n h).2 hm
/-- Of two loops that have one together the one has the other's head. -/
theorem mbr_cross {l : List Is} {i k n : Nat} (hi : Rch l i) (hk : Rch l k) (hn : i ≠ k) (h1 : Mbr l i n) (h2 : Mbr l k n) : Mbr l k i ∨ Mbr l i k := by
  rcases (h2.dm hk).chain (h1.dm hi) with h | h
  · exact .inl ((qv_of h (Ne.symm hn) (h1.dm hi)).mbr hn h2)
  · exact .inr ((qv_of h hn (h2.dm hk)).mbr (Ne.symm hn) h1)
theorem mbr_both {l : List Is} {i k : Nat} (hi : Rch l i) (hk : Rch l k) (h1 : Mbr l i k) (h2 : Mbr l k i) : i = k := (h1.dm hi).anti (h2.dm hk)
theorem Mbr.within {l : List Is} {i k x : Nat} (hi : Rch l i) (hk : Rch l k) (hn : i ≠ k) (h : Mbr l k i) (hx : Mbr l i x) : Mbr l k x := by
  induction hx with
  | head => exact h
  | back hb => exact .step h hn hb.rch hb.1
  | @step u x hx hxi hu hv ih =>
    by_cases e : x = k
    · subst e; exact absurd (mbr_both hi hk hx h) hn
    · exact .step ih e hu hv
end Go.Proofs.YtgiokognngllcaaDoor
